// Package interval represents finite unions of half-open intervals of ints by sorted lists. See shared/doc/02-interval.md.
package interval

import (
	"sort"

	"estovers/api"
)

// Check returns OK if s is a valid list; otherwise ErrRange or ErrOrder, for the first interval that has an error.
func Check(s []api.Interval) int {
	for n, i := range s {
		if i.From >= i.To {
			return api.ErrRange
		}
		if n > 0 && i.From <= s[n-1].To {
			return api.ErrOrder
		}
	}
	return api.OK
}

// Add returns s with the ints of i: the error of Check, ErrRange.
func Add(s []api.Interval, i api.Interval) ([]api.Interval, int) {
	return change(s, i, either)
}

// Remove returns s without the ints of i: the error of Check, ErrRange.
func Remove(s []api.Interval, i api.Interval) ([]api.Interval, int) {
	return change(s, i, onlyFirst)
}

// Union returns the ints that are in a or in b: the error of Check of a, of b.
func Union(a, b []api.Interval) ([]api.Interval, int) {
	return combine(a, b, either)
}

// Intersect returns the ints that are in both a and b: the error of Check of a, of b.
func Intersect(a, b []api.Interval) ([]api.Interval, int) {
	return combine(a, b, both)
}

// Subtract returns the ints that are in a and not in b: the error of Check of a, of b.
func Subtract(a, b []api.Interval) ([]api.Interval, int) {
	return combine(a, b, onlyFirst)
}

// Contains reports whether n is in the set of s; false if s is not valid.
func Contains(s []api.Interval, n int) bool {
	if Check(s) != api.OK {
		return false
	}
	k := sort.Search(len(s), func(k int) bool { return s[k].To > n })
	return k < len(s) && s[k].From <= n
}

// Gaps returns the ints from lo to hi-1 that are not in the set of s: the error of Check, ErrRange.
func Gaps(s []api.Interval, lo, hi int) ([]api.Interval, int) {
	if e := Check(s); e != api.OK {
		return nil, e
	}
	if lo > hi {
		return nil, api.ErrRange
	}
	return merge(list(api.Interval{From: lo, To: hi}), s, onlyFirst), api.OK
}

// FirstGap returns the least int from lo on at which n ints begin that are below hi and not in the set of s: the error of Check, ErrRange, ErrNone.
func FirstGap(s []api.Interval, lo, hi, n int) (int, int) {
	gaps, e := Gaps(s, lo, hi)
	if e != api.OK {
		return 0, e
	}
	if n < 1 {
		return 0, api.ErrRange
	}
	for _, g := range gaps {
		if length(g) >= uint64(n) {
			return g.From, api.OK
		}
	}
	return 0, api.ErrNone
}

// change combines s with one interval, which may be empty.
func change(s []api.Interval, i api.Interval, keep func(inS, inI bool) bool) ([]api.Interval, int) {
	if e := Check(s); e != api.OK {
		return nil, e
	}
	if i.From > i.To {
		return nil, api.ErrRange
	}
	return merge(s, list(i), keep), api.OK
}

// combine checks two lists and merges them.
func combine(a, b []api.Interval, keep func(inA, inB bool) bool) ([]api.Interval, int) {
	if e := Check(a); e != api.OK {
		return nil, e
	}
	if e := Check(b); e != api.OK {
		return nil, e
	}
	return merge(a, b, keep), api.OK
}

// merge returns the valid list of the ints that keep selects: it is told whether an int is in the set of a, and of b. It must refuse an int that is in neither.
func merge(a, b []api.Interval, keep func(inA, inB bool) bool) []api.Interval {
	var out []api.Interval
	start, inside := 0, false
	for i, j := 0, 0; i < 2*len(a) || j < 2*len(b); {
		at := nearest(a, i, b, j)
		// Edges of both lists at one place are passed together, so that no empty or touching intervals arise.
		if i < 2*len(a) && edge(a, i) == at {
			i++
		}
		if j < 2*len(b) && edge(b, j) == at {
			j++
		}
		if keep(i%2 == 1, j%2 == 1) == inside {
			continue
		}
		if inside {
			out = append(out, api.Interval{From: start, To: at})
		}
		start, inside = at, !inside
	}
	return out
}

// nearest returns the lower one of edge i of a and edge j of b, of which at least one exists.
func nearest(a []api.Interval, i int, b []api.Interval, j int) int {
	if j == 2*len(b) {
		return edge(a, i)
	}
	if i == 2*len(a) {
		return edge(b, j)
	}
	return min(edge(a, i), edge(b, j))
}

// edge returns the edge number n of a list: an even one begins an interval, an odd one ends it.
func edge(s []api.Interval, n int) int {
	if n%2 == 0 {
		return s[n/2].From
	}
	return s[n/2].To
}

// list returns the valid list of the ints of i.
func list(i api.Interval) []api.Interval {
	if i.From == i.To {
		return nil
	}
	return []api.Interval{i}
}

// length returns the number of ints in i. It may exceed the greatest int.
func length(i api.Interval) uint64 { return uint64(i.To) - uint64(i.From) }

func either(inA, inB bool) bool { return inA || inB }

func both(inA, inB bool) bool { return inA && inB }

func onlyFirst(inA, inB bool) bool { return inA && !inB }
