package percpu

import (
	"fmt"
	"slices"
	"testing"

	"estovers/api"
)

// outcome is the result of a function.
type outcome struct {
	c     api.CpuCache
	frame int   // that Take takes
	back  []int // from Put and Drain
	e     int
}

func refuse(e int) outcome { return outcome{e: e} }

// same reports whether two caches are equal, where nil and empty lists are the same.
func same(a, b api.CpuCache) bool { return slices.EqualFunc(a.Lists, b.Lists, slices.Equal[[]int]) }

func (o outcome) same(other outcome) bool {
	return o.frame == other.frame && o.e == other.e && slices.Equal(o.back, other.back) && same(o.c, other.c)
}

// with returns c with another list for a zone.
func with(c api.CpuCache, zone int, list []int) api.CpuCache {
	out := deepCopy(c)
	out.Lists[zone] = slices.Clone(list)
	return out
}

func deepCopy(c api.CpuCache) api.CpuCache {
	var out api.CpuCache
	for _, l := range c.Lists {
		out.Lists = append(out.Lists, slices.Clone(l))
	}
	return out
}

// number returns how often a frame is in the lists.
func number(c api.CpuCache, frame int) int {
	n := 0
	for _, other := range slices.Concat(c.Lists...) {
		if other == frame {
			n++
		}
	}
	return n
}

// checked is the promise of Check.
func checked(c api.CpuCache, zones int) int {
	if zones < 1 || zones > 6 {
		return api.ErrArg
	}
	if len(c.Lists) != zones {
		return api.ErrForm
	}
	all := slices.Concat(c.Lists...)
	for _, frame := range all {
		if frame < 0 || frame > 255 {
			return api.ErrRange
		}
	}
	for _, frame := range all {
		if number(c, frame) > 1 {
			return api.ErrExist
		}
	}
	return api.OK
}

// action is a call of a function, and a direct reading of its promise for a valid cache and one of its zones.
type action struct {
	what string
	zone int
	do   func(c api.CpuCache, zone int) outcome
	read func(c api.CpuCache, zone int) outcome
}

func takeAction(zone int) action {
	return action{fmt.Sprintf("Take(%d)", zone), zone, func(c api.CpuCache, zone int) outcome {
		out, frame, e := Take(c, zone)
		return outcome{c: out, frame: frame, e: e}
	}, func(c api.CpuCache, zone int) outcome {
		l := c.Lists[zone]
		if len(l) == 0 {
			return refuse(api.ErrNone)
		}
		return outcome{c: with(c, zone, l[:len(l)-1]), frame: l[len(l)-1]}
	}}
}

func putAction(zone, frame, batch, high int) action {
	return action{fmt.Sprintf("Put(%d, %d, %d, %d)", zone, frame, batch, high), zone, func(c api.CpuCache, zone int) outcome {
		out, back, e := Put(c, zone, frame, batch, high)
		return outcome{c: out, back: back, e: e}
	}, func(c api.CpuCache, zone int) outcome {
		if frame < 0 || frame > 255 {
			return refuse(api.ErrRange)
		}
		if !(1 <= batch && batch <= high) {
			return refuse(api.ErrArg)
		}
		if number(c, frame) > 0 {
			return refuse(api.ErrExist)
		}
		l := append(slices.Clone(c.Lists[zone]), frame)
		if len(l) <= high {
			return outcome{c: with(c, zone, l)}
		}
		return outcome{c: with(c, zone, l[batch:]), back: l[:batch]}
	}}
}

func refillAction(zone int, frames []int) action {
	return action{fmt.Sprintf("Refill(%d, %v)", zone, frames), zone, func(c api.CpuCache, zone int) outcome {
		out, e := Refill(c, zone, frames)
		return outcome{c: out, e: e}
	}, func(c api.CpuCache, zone int) outcome {
		l := slices.Clone(c.Lists[zone])
		for i, frame := range frames {
			if frame < 0 || frame > 255 {
				return refuse(api.ErrRange)
			}
			if number(c, frame) > 0 || slices.Contains(frames[:i], frame) {
				return refuse(api.ErrExist)
			}
			l = slices.Insert(l, len(c.Lists[zone]), frame)
		}
		return outcome{c: with(c, zone, l)}
	}}
}

func drainAction(zone int) action {
	return action{fmt.Sprintf("Drain(%d)", zone), zone, func(c api.CpuCache, zone int) outcome {
		out, back, e := Drain(c, zone)
		return outcome{c: out, back: back, e: e}
	}, func(c api.CpuCache, zone int) outcome {
		return outcome{c: with(c, zone, nil), back: c.Lists[zone]}
	}}
}

// expect compares an action for any cache with the direct reading of its promise.
func expect(t *testing.T, c api.CpuCache, a action) outcome {
	t.Helper()
	got, want := a.do(c, a.zone), outcome{}
	if e := checked(c, len(c.Lists)); e != api.OK {
		want = refuse(e)
	} else if a.zone < 0 || a.zone >= len(c.Lists) {
		want = refuse(api.ErrRange)
	} else {
		want = a.read(c, a.zone)
	}
	if !got.same(want) {
		t.Fatalf("%s of %v = %v, want %v", a.what, c, got, want)
	}
	if got.e == api.OK && Check(got.c, len(c.Lists)) != api.OK {
		t.Fatalf("%s of %v = %v, which is not valid", a.what, c, got)
	}
	return got
}

// expectLooks compares Check and Count with their promises.
func expectLooks(t *testing.T, c api.CpuCache) {
	t.Helper()
	for _, n := range counts() {
		if got, want := Check(c, n), checked(c, n); got != want {
			t.Fatalf("Check(%v, %d) = %d, want %d", c, n, got, want)
		}
		want := 0
		if checked(c, len(c.Lists)) == api.OK && n >= 0 && n < len(c.Lists) {
			want = len(c.Lists[n])
		}
		if got := Count(c, n); got != want {
			t.Fatalf("Count(%v, %d) = %d, want %d", c, n, got, want)
		}
	}
}
