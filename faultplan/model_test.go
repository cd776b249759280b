package faultplan

import (
	"testing"

	"estovers/api"
)

// checked is the specification of Check.
func checked(c api.FaultCase) int {
	if c.Entry != 0 && c.Entry != 1 && c.Entry != 2 && c.Entry != 3 {
		return api.ErrArg
	}
	if c.Missing != 0 && c.Missing != 1 && c.Missing != 2 {
		return api.ErrRange
	}
	if c.Region == false {
		return api.OK
	}
	if !(c.Prot == 1 || c.Prot == 3) {
		return api.ErrArg
	}
	for _, isWrong := range contradictions(c) {
		if isWrong {
			return api.ErrForm
		}
	}
	return api.OK
}

// contradictions are the parts of the condition of ErrForm, in the chapter's order.
func contradictions(c api.FaultCase) []bool {
	none, page, swap, move := c.Entry == 0, c.Entry == 1, c.Entry == 2, c.Entry == 3
	return []bool{
		c.File == false && (c.Shared || c.Behind || c.Busy || c.Backed || c.Dirty || c.Full),
		c.Missing > 0 && !none,
		none && (c.Own || c.Only),
		none && c.File == false && c.Cached,
		(page || move) && c.Cached,
		(page || move) && c.File == false && c.Own == false,
		swap && c.Own == false,
		c.Shared && c.Own,
		c.Only && c.Own == false,
		move && c.Transit == false,
		c.Transit && (none || swap) && c.Cached == false,
		c.Writable && !page,
		c.Writable && c.Prot != 3,
		c.Writable && !(c.Only || c.Shared && c.Dirty),
	}
}

// planned is the specification of Plan, of a case without an error.
func planned(c api.FaultCase) api.FaultPlan {
	none, page, swap := c.Entry == 0, c.Entry == 1, c.Entry == 2
	hasOwn := swap || c.Own && !none
	if !c.Region {
		return api.FaultPlan{Action: api.ActError, Error: api.ErrFault}
	}
	if c.Write && c.Prot == 1 {
		return api.FaultPlan{Action: api.ActError, Error: api.ErrAccess}
	}
	if c.Behind && !hasOwn {
		return api.FaultPlan{Action: api.ActError, Error: api.ErrBus}
	}
	if page && (!c.Write || c.Writable) {
		return api.FaultPlan{Action: api.ActNone}
	}
	if c.Busy && !hasOwn {
		return api.FaultPlan{Action: api.ActWait, Wait: api.WaitFile}
	}
	if c.Transit {
		return api.FaultPlan{Action: api.ActWait, Wait: api.WaitFrame}
	}
	if page {
		return plannedWrite(c)
	}
	if swap {
		if c.Cached {
			return api.FaultPlan{Action: api.ActCached}
		}
		return api.FaultPlan{Action: api.ActSwapIn, User: 1}
	}
	if !c.File {
		return api.FaultPlan{Action: api.ActZero, Kernel: c.Missing, User: 1}
	}
	if c.Cached {
		return api.FaultPlan{Action: api.ActMap, Kernel: c.Missing}
	}
	if !c.Backed {
		return api.FaultPlan{Action: api.ActFresh, Kernel: c.Missing, User: 1}
	}
	return api.FaultPlan{Action: api.ActRead, User: 1}
}

// plannedWrite is the part of planned about writes to a mapped page.
func plannedWrite(c api.FaultCase) api.FaultPlan {
	if c.Own {
		if c.Only {
			return api.FaultPlan{Action: api.ActReuse}
		}
		return api.FaultPlan{Action: api.ActCopy, User: 1}
	}
	if !c.Shared {
		return api.FaultPlan{Action: api.ActCopy, User: 1}
	}
	if !c.Dirty && c.Full {
		return api.FaultPlan{Action: api.ActWait, Wait: api.WaitDirty}
	}
	return api.FaultPlan{Action: api.ActDirty}
}

// afterwards is the specification of After, of a case without an error.
func afterwards(c api.FaultCase) (api.FaultCase, bool) {
	mayWrite := c.Prot == 3
	switch p := planned(c); p.Action {
	case api.ActNone, api.ActError:
		return c, true
	case api.ActWait:
		switch p.Wait {
		case api.WaitFile:
			c.Busy = false
		case api.WaitDirty:
			c.Full = false
		default:
			c.Transit = false
			if c.Entry == 3 {
				c.Entry = 1
			}
		}
	case api.ActReuse:
		c.Writable = true
	case api.ActDirty:
		c.Dirty = true
		c.Writable = true
	case api.ActCopy:
		c.Own = true
		c.Only = true
		c.Writable = true
	case api.ActCached:
		c.Entry = 1
		c.Cached = false
		c.Writable = c.Only && mayWrite
	case api.ActZero:
		c.Entry = 1
		c.Missing = 0
		c.Own = true
		c.Only = true
		c.Writable = mayWrite
	case api.ActMap:
		c.Entry = 1
		c.Missing = 0
		c.Cached = false
	case api.ActSwapIn, api.ActFresh, api.ActRead:
		c.Cached = true
	}
	return c, false
}

// expect compares all functions with their specifications for a case, and returns the error of the case.
func expect(t *testing.T, c api.FaultCase) int {
	t.Helper()
	e := checked(c)
	if got := Check(c); got != e {
		t.Fatalf("Check(%+v) = %d, want %d", c, got, e)
	}
	var plan api.FaultPlan
	var next api.FaultCase
	var end bool
	if e == api.OK {
		plan = planned(c)
		next, end = afterwards(c)
	}
	if got, g := Plan(c); got != plan || g != e {
		t.Fatalf("Plan(%+v) = %+v, %d, want %+v, %d", c, got, g, plan, e)
	}
	if got, isEnd, g := After(c); got != next || isEnd != end || g != e {
		t.Fatalf("After(%+v) = %+v, %t, %d, want %+v, %t, %d", c, got, isEnd, g, next, end, e)
	}
	return e
}

// numbered returns the case whose 14 conditions are the bits of a number.
func numbered(bits, prot, entry, missing int) api.FaultCase {
	is := func(bit int) bool { return bits>>bit&1 == 1 }
	return api.FaultCase{
		Write: is(0), Region: is(1), Prot: prot, Shared: is(2), File: is(3), Behind: is(4), Busy: is(5), Entry: entry, Writable: is(6),
		Transit: is(7), Own: is(8), Only: is(9), Cached: is(10), Backed: is(11), Dirty: is(12), Full: is(13), Missing: missing,
	}
}

// allCases calls f for all cases with these protections, kinds of entries and numbers of missing tables.
func allCases(prots, entries, missing []int, f func(c api.FaultCase)) {
	for bits := range 1 << 14 {
		for _, p := range prots {
			for _, e := range entries {
				for _, m := range missing {
					f(numbered(bits, p, e, m))
				}
			}
		}
	}
}

// validCases calls f for all cases that have a region and no error.
func validCases(f func(c api.FaultCase)) {
	allCases([]int{1, 3}, []int{0, 1, 2, 3}, []int{0, 1, 2}, func(c api.FaultCase) {
		if c.Region && checked(c) == api.OK {
			f(c)
		}
	})
}
