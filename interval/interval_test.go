package interval

import (
	"math"
	"slices"
	"testing"

	"estovers/api"
)

// pairs returns the intervals between these edges.
func pairs(edges ...int) []api.Interval {
	var out []api.Interval
	for n := 0; n+1 < len(edges); n += 2 {
		out = append(out, api.Interval{From: edges[n], To: edges[n+1]})
	}
	return out
}

// places is the number of ints of the small lists: they contain ints from 0 on.
const places = 7

// ofMask returns the valid list of the bits of a mask.
func ofMask(mask int) []api.Interval {
	var out []api.Interval
	for n := 0; n < places; n++ {
		if mask>>n&1 == 0 {
			continue
		}
		if len(out) > 0 && out[len(out)-1].To == n {
			out[len(out)-1].To = n + 1
		} else {
			out = append(out, api.Interval{From: n, To: n + 1})
		}
	}
	return out
}

// invalid is a list that is not valid, with the error of Check.
type invalid struct {
	s []api.Interval
	e int
}

func invalidLists() []invalid {
	return []invalid{
		{pairs(2, 2), api.ErrRange},
		{pairs(3, 2), api.ErrRange},
		{pairs(math.MaxInt, math.MinInt), api.ErrRange},
		{pairs(1, 3, 7, 7), api.ErrRange},
		{pairs(1, 3, 3, 4), api.ErrOrder},
		{pairs(1, 3, 2, 4), api.ErrOrder},
		{pairs(5, 6, 1, 2), api.ErrOrder},
		{pairs(1, 9, 2, 3), api.ErrOrder},
		{pairs(1, 3, 1, 3), api.ErrOrder},
		{pairs(1, 3, 5, 6, 6, 8), api.ErrOrder},
		{pairs(5, 6, 4, 4), api.ErrRange},
		{pairs(5, 6, 4, 5, 3, 3), api.ErrOrder},
		{pairs(5, 5, 4, 5), api.ErrRange},
	}
}

func expect(t *testing.T, what string, got []api.Interval, e int, want []api.Interval) {
	t.Helper()
	if e != api.OK || !slices.Equal(got, want) {
		t.Errorf("%s: got %v, %d, want %v", what, got, e, want)
	}
}

func refuse(t *testing.T, what string, got []api.Interval, e, want int) {
	t.Helper()
	if e != want || len(got) != 0 {
		t.Errorf("%s: got %v, %d, want the error %d", what, got, e, want)
	}
}

// P2.1
func TestCheck(t *testing.T) {
	for _, s := range [][]api.Interval{nil, {}, pairs(1, 2), pairs(1, 3, 4, 5), pairs(-9, -3, -2, 4), pairs(math.MinInt, math.MaxInt), pairs(math.MinInt, -1, 0, math.MaxInt)} {
		if e := Check(s); e != api.OK {
			t.Errorf("Check(%v) = %d", s, e)
		}
	}
	for _, c := range invalidLists() {
		if e := Check(c.s); e != c.e {
			t.Errorf("Check(%v) = %d, want %d", c.s, e, c.e)
		}
	}
}

// P2.1
func TestContains(t *testing.T) {
	for mask := range 1 << places {
		s := ofMask(mask)
		for n := -2; n < places+2; n++ {
			if want := n >= 0 && mask>>n&1 == 1; Contains(s, n) != want {
				t.Fatalf("Contains(%v, %d), want %v", s, n, want)
			}
		}
	}
	whole := pairs(math.MinInt, math.MaxInt)
	if !Contains(whole, math.MinInt) || !Contains(whole, 0) || !Contains(whole, math.MaxInt-1) || Contains(whole, math.MaxInt) {
		t.Error("Contains at the ends of the ints")
	}
	for _, c := range invalidLists() {
		for n := range 10 {
			if Contains(c.s, n) {
				t.Errorf("Contains(%v, %d) of an invalid list", c.s, n)
			}
		}
	}
}

// P2.2, with all pairs of small sets.
func TestUnionIntersectSubtract(t *testing.T) {
	for x := range 1 << places {
		for y := range 1 << places {
			a, b := ofMask(x), ofMask(y)
			out, e := Union(a, b)
			expect(t, "Union", out, e, ofMask(x|y))
			out, e = Intersect(a, b)
			expect(t, "Intersect", out, e, ofMask(x&y))
			out, e = Subtract(a, b)
			expect(t, "Subtract", out, e, ofMask(x&^y))
		}
	}
}

// P2.2
func TestOperationsAtTheEnds(t *testing.T) {
	whole, middle := pairs(math.MinInt, math.MaxInt), pairs(-5, 0, 3, 9)
	out, e := Union(middle, whole)
	expect(t, "Union", out, e, whole)
	out, e = Intersect(whole, middle)
	expect(t, "Intersect", out, e, middle)
	out, e = Subtract(whole, middle)
	expect(t, "Subtract", out, e, pairs(math.MinInt, -5, 0, 3, 9, math.MaxInt))
	out, e = Subtract(middle, whole)
	expect(t, "Subtract", out, e, nil)
	out, e = Union(pairs(math.MinInt, 0), pairs(0, math.MaxInt))
	expect(t, "Union of two halves", out, e, whole)
}

// P2.2
func TestOperationsOfInvalidLists(t *testing.T) {
	good := pairs(1, 3, 5, 6)
	for _, operation := range []func(a, b []api.Interval) ([]api.Interval, int){Union, Intersect, Subtract} {
		for _, c := range invalidLists() {
			out, e := operation(c.s, good)
			refuse(t, "an invalid first list", out, e, c.e)
			out, e = operation(good, c.s)
			refuse(t, "an invalid second list", out, e, c.e)
			out, e = operation(nil, c.s)
			refuse(t, "an invalid second list", out, e, c.e)
			for _, d := range invalidLists() {
				out, e = operation(c.s, d.s)
				refuse(t, "two invalid lists", out, e, c.e)
			}
		}
	}
}

// maskOf returns the mask of the ints from..to-1 that small lists can contain.
func maskOf(from, to int) int {
	mask := 0
	for n := max(from, 0); n < min(to, places); n++ {
		mask |= 1 << n
	}
	return mask
}

// P2.3
func TestAddRemove(t *testing.T) {
	for mask := range 1 << places {
		for from := 0; from <= places; from++ {
			for to := 0; to <= places; to++ {
				i := api.Interval{From: from, To: to}
				added, e := Add(ofMask(mask), i)
				removed, f := Remove(ofMask(mask), i)
				if from > to {
					refuse(t, "Add", added, e, api.ErrRange)
					refuse(t, "Remove", removed, f, api.ErrRange)
					continue
				}
				expect(t, "Add", added, e, ofMask(mask|maskOf(from, to)))
				expect(t, "Remove", removed, f, ofMask(mask&^maskOf(from, to)))
			}
		}
	}
}

// P2.3
func TestAddRemoveAtTheEnds(t *testing.T) {
	whole := api.Interval{From: math.MinInt, To: math.MaxInt}
	out, e := Add(pairs(1, 3, 5, 7), whole)
	expect(t, "Add", out, e, []api.Interval{whole})
	out, e = Remove(pairs(1, 3, 5, 7), whole)
	expect(t, "Remove", out, e, nil)
	for _, n := range []int{math.MinInt, 2, 4, math.MaxInt} {
		nothing := api.Interval{From: n, To: n}
		out, e = Add(pairs(1, 3), nothing)
		expect(t, "Add of nothing", out, e, pairs(1, 3))
		out, e = Remove(pairs(1, 3), nothing)
		expect(t, "Remove of nothing", out, e, pairs(1, 3))
	}
	out, e = Add(nil, api.Interval{From: 4, To: 4})
	expect(t, "Add of nothing", out, e, nil)
	out, e = Remove([]api.Interval{whole}, api.Interval{From: math.MaxInt - 1, To: math.MaxInt})
	expect(t, "Remove of the last int", out, e, pairs(math.MinInt, math.MaxInt-1))
}

// P2.3
func TestAddRemoveErrors(t *testing.T) {
	reversed := api.Interval{From: math.MaxInt, To: math.MinInt}
	for _, operation := range []func(s []api.Interval, i api.Interval) ([]api.Interval, int){Add, Remove} {
		out, e := operation(pairs(1, 3), reversed)
		refuse(t, "a reversed interval", out, e, api.ErrRange)
		for _, c := range invalidLists() {
			for _, i := range []api.Interval{{From: 1, To: 2}, {From: 1, To: 1}, reversed} {
				out, e = operation(c.s, i)
				refuse(t, "an invalid list", out, e, c.e)
			}
		}
	}
}

// P2.4
func TestGaps(t *testing.T) {
	for mask := range 1 << places {
		for lo := 0; lo <= places; lo++ {
			for hi := 0; hi <= places; hi++ {
				out, e := Gaps(ofMask(mask), lo, hi)
				if lo > hi {
					refuse(t, "Gaps", out, e, api.ErrRange)
					continue
				}
				expect(t, "Gaps", out, e, ofMask(maskOf(lo, hi)&^mask))
			}
		}
	}
	out, e := Gaps(nil, math.MinInt, math.MaxInt)
	expect(t, "Gaps of nothing", out, e, pairs(math.MinInt, math.MaxInt))
	out, e = Gaps(pairs(math.MinInt, -4, 6, math.MaxInt), math.MinInt, math.MaxInt)
	expect(t, "Gaps", out, e, pairs(-4, 6))
	out, e = Gaps(pairs(2, 4), math.MinInt, math.MinInt)
	expect(t, "Gaps in nothing", out, e, nil)
	for _, c := range invalidLists() {
		out, e = Gaps(c.s, 0, 9)
		refuse(t, "Gaps of an invalid list", out, e, c.e)
		out, e = Gaps(c.s, 9, 0)
		refuse(t, "Gaps of an invalid list in a reversed range", out, e, c.e)
	}
}

// firstGap is FirstGap of a small set, as the promise says it.
func firstGap(mask, lo, hi, n int) (int, int) {
	if lo > hi || n < 1 {
		return 0, api.ErrRange
	}
	for a := lo; a+n <= hi; a++ {
		if mask&maskOf(a, a+n) == 0 {
			return a, api.OK
		}
	}
	return 0, api.ErrNone
}

// P2.4
func TestFirstGap(t *testing.T) {
	for mask := range 1 << places {
		for lo := -2; lo <= places+2; lo++ {
			for hi := -2; hi <= places+2; hi++ {
				for n := -1; n <= places+5; n++ {
					a, e := FirstGap(ofMask(mask), lo, hi, n)
					if want, f := firstGap(mask, lo, hi, n); a != want || e != f {
						t.Fatalf("FirstGap(%v, %d, %d, %d): got %d, %d, want %d, %d", ofMask(mask), lo, hi, n, a, e, want, f)
					}
				}
			}
		}
	}
}

// P2.4: lengths are exact for all ints.
func TestFirstGapOfHugeRanges(t *testing.T) {
	for _, c := range []struct {
		s            []api.Interval
		lo, hi, n, a int
		e            int
	}{
		{nil, math.MinInt, math.MaxInt, math.MaxInt, math.MinInt, api.OK},
		{nil, math.MinInt, math.MaxInt, 1, math.MinInt, api.OK},
		{nil, 0, math.MaxInt, math.MaxInt, 0, api.OK},
		{nil, 1, math.MaxInt, math.MaxInt, 0, api.ErrNone},
		{nil, math.MinInt, -1, math.MaxInt, math.MinInt, api.OK},
		{nil, math.MinInt, -2, math.MaxInt, 0, api.ErrNone},
		{pairs(-1, 0), math.MinInt, math.MaxInt, math.MaxInt, math.MinInt, api.OK},
		{pairs(-2, 0), math.MinInt, math.MaxInt, math.MaxInt, 0, api.OK},
		{pairs(-2, 1), math.MinInt, math.MaxInt, math.MaxInt, 0, api.ErrNone},
		{pairs(math.MinInt, math.MaxInt-1), math.MinInt, math.MaxInt, 1, math.MaxInt - 1, api.OK},
		{pairs(math.MinInt, math.MaxInt), math.MinInt, math.MaxInt, 1, 0, api.ErrNone},
		{nil, math.MinInt, math.MaxInt, math.MinInt, 0, api.ErrRange},
		{nil, math.MaxInt, math.MinInt, 1, 0, api.ErrRange},
		{nil, math.MaxInt, math.MaxInt, 1, 0, api.ErrNone},
	} {
		if a, e := FirstGap(c.s, c.lo, c.hi, c.n); a != c.a || e != c.e {
			t.Errorf("FirstGap(%v, %d, %d, %d): got %d, %d, want %d, %d", c.s, c.lo, c.hi, c.n, a, e, c.a, c.e)
		}
	}
	for _, c := range invalidLists() {
		for _, n := range []int{0, 1} {
			if a, e := FirstGap(c.s, 0, 9, n); a != 0 || e != c.e {
				t.Errorf("FirstGap(%v): got %d, %d, want the error %d", c.s, a, e, c.e)
			}
		}
	}
}

// P2.5
func TestArgumentsStay(t *testing.T) {
	room := append(make([]api.Interval, 0, 8), pairs(1, 3, 5, 9)...)
	b := pairs(2, 6)
	calls := map[string]func() ([]api.Interval, int){
		"Add":               func() ([]api.Interval, int) { return Add(room, api.Interval{From: 2, To: 4}) },
		"Add behind":        func() ([]api.Interval, int) { return Add(room, api.Interval{From: 12, To: 14}) },
		"Add of nothing":    func() ([]api.Interval, int) { return Add(room, api.Interval{}) },
		"Remove":            func() ([]api.Interval, int) { return Remove(room, api.Interval{From: 6, To: 7}) },
		"Remove of nothing": func() ([]api.Interval, int) { return Remove(room, api.Interval{}) },
		"Union":             func() ([]api.Interval, int) { return Union(room, b) },
		"Union with none":   func() ([]api.Interval, int) { return Union(room, nil) },
		"Union to none":     func() ([]api.Interval, int) { return Union(nil, room) },
		"Intersect":         func() ([]api.Interval, int) { return Intersect(room, b) },
		"Intersect itself":  func() ([]api.Interval, int) { return Intersect(room, room) },
		"Subtract":          func() ([]api.Interval, int) { return Subtract(room, b) },
		"Subtract none":     func() ([]api.Interval, int) { return Subtract(room, nil) },
		"Gaps":              func() ([]api.Interval, int) { return Gaps(room, 0, 20) },
	}
	for name, call := range calls {
		out, e := call()
		if e != api.OK {
			t.Fatalf("%s: %d", name, e)
		}
		out = out[:cap(out)]
		for n := range out {
			out[n] = api.Interval{From: 70, To: 77}
		}
		if !slices.Equal(room[:8], append(pairs(1, 3, 5, 9), make([]api.Interval, 6)...)) || !slices.Equal(b, pairs(2, 6)) {
			t.Fatalf("%s: an argument has changed: %v, %v", name, room[:8], b)
		}
	}
}

// P2.6
func TestLaws(t *testing.T) {
	for x := range 1 << places {
		for y := range 1 << places {
			checkLaws(t, ofMask(x), ofMask(y))
		}
	}
	checkLaws(t, pairs(math.MinInt, 0, 7, math.MaxInt), pairs(-3, 9))
}

func checkLaws(t *testing.T, a, b []api.Interval) {
	t.Helper()
	union, _ := Union(a, b)
	reverse, _ := Union(b, a)
	common, _ := Intersect(a, b)
	swapped, _ := Intersect(b, a)
	if !slices.Equal(union, reverse) || !slices.Equal(common, swapped) {
		t.Errorf("not commutative: %v, %v", a, b)
	}
	rest, _ := Subtract(a, b)
	shared, e := Intersect(rest, common)
	expect(t, "the intersection of Subtract and Intersect", shared, e, nil)
	again, e := Union(rest, common)
	expect(t, "the union of Subtract and Intersect", again, e, a)
	gapsA, _ := Gaps(a, -1, places+1)
	gapsB, _ := Gaps(b, -1, places+1)
	gaps, e := Intersect(gapsA, gapsB)
	want, _ := Gaps(union, -1, places+1)
	expect(t, "the gaps of the union", gaps, e, want)
	for _, s := range [][]api.Interval{union, common, rest, gapsA} {
		if e := Check(s); e != api.OK {
			t.Errorf("a result is not valid: %v, %d", s, e)
		}
	}
}

func TestExamples(t *testing.T) {
	out, e := Add(pairs(1, 3), api.Interval{From: 3, To: 5})
	expect(t, "Add", out, e, pairs(1, 5))
	out, e = Remove(pairs(1, 9), api.Interval{From: 3, To: 5})
	expect(t, "Remove", out, e, pairs(1, 3, 5, 9))
	out, e = Subtract(pairs(1, 9), pairs(0, 2, 4, 20))
	expect(t, "Subtract", out, e, pairs(2, 4))
	out, e = Gaps(pairs(2, 4), 0, 10)
	expect(t, "Gaps", out, e, pairs(0, 2, 4, 10))
	if a, e := FirstGap(pairs(2, 4), 0, 10, 3); a != 4 || e != api.OK {
		t.Errorf("FirstGap: %d, %d", a, e)
	}
	if a, e := FirstGap(pairs(2, 4), 0, 10, 7); a != 0 || e != api.ErrNone {
		t.Errorf("FirstGap: %d, %d", a, e)
	}
	if Contains(pairs(1, 3), 3) || !Contains(pairs(1, 3), 2) {
		t.Error("Contains")
	}
}
