package faultplan

import (
	"math"
	"testing"

	"estovers/api"
)

// limits are the limits of int, and numbers about those that a case may have.
func limits() []int {
	return []int{math.MinInt, math.MinInt + 1, -1 << 32, -3, -2, -1, 0, 1, 2, 3, 4, 5, 7, 9, 1 << 32, 1<<32 + 1, math.MaxInt - 1, math.MaxInt}
}

// P26.1: all cases with all conditions, kinds of entries, protections and numbers of missing tables.
func TestAllCases(t *testing.T) {
	seen := map[int]int{}
	allCases([]int{1, 3}, []int{0, 1, 2, 3}, []int{0, 1, 2}, func(c api.FaultCase) { seen[expect(t, c)]++ })
	if seen[api.OK] < 100000 || seen[api.ErrForm] < 100000 || len(seen) != 2 {
		t.Errorf("too few cases: %v", seen)
	}
}

// P26.1: numbers that no case may have, with and without a region.
func TestNumbers(t *testing.T) {
	seen := map[int]int{}
	for _, bits := range []int{0, 1, 2, 3, 1 << 8, 1<<8 + 2, 1<<3 + 2, 1<<3 + 1<<10 + 2, 1<<14 - 1, 1<<6 + 2, 1<<6 + 1<<8 + 1<<9 + 3} {
		for _, prot := range limits() {
			for _, entry := range limits() {
				for _, missing := range limits() {
					seen[expect(t, numbered(bits, prot, entry, missing))]++
				}
			}
		}
	}
	for _, e := range []int{api.OK, api.ErrArg, api.ErrRange, api.ErrForm} {
		if seen[e] < 20 {
			t.Errorf("only %d cases with %d", seen[e], e)
		}
	}
}

// anonymous returns a page of an anonymous region that may be written, without an entry.
func anonymous() api.FaultCase {
	return api.FaultCase{Region: true, Prot: api.ProtRead + api.ProtWrite}
}

// change returns a case with some changes.
func change(c api.FaultCase, f func(c *api.FaultCase)) api.FaultCase {
	f(&c)
	return c
}

// filed returns a page of a private or shared region of a file that may be written, which an entry of a kind names.
func filed(entry int, isShared bool) api.FaultCase {
	return api.FaultCase{Region: true, Prot: api.ProtRead + api.ProtWrite, File: true, Shared: isShared, Entry: entry, Transit: entry == api.EntryMove}
}

// owned returns a page of an anonymous region that may be written, whose entry of a kind leads to memory that it shares with others.
func owned(entry int) api.FaultCase {
	c := anonymous()
	c.Entry, c.Own, c.Transit = entry, true, entry == api.EntryMove
	return c
}

// P26.1: each error of Check, literally, one at a time.
func TestCheck(t *testing.T) {
	for _, x := range []struct {
		what string
		c    api.FaultCase
		want int
	}{
		{"anonymous", anonymous(), api.OK},
		{"file", filed(api.EntryNone, false), api.OK},
		{"no case", api.FaultCase{}, api.OK},
		{"kind of a table", change(anonymous(), func(c *api.FaultCase) { c.Entry = api.EntryTable }), api.ErrArg},
		{"kind below none", change(anonymous(), func(c *api.FaultCase) { c.Entry = -1 }), api.ErrArg},
		{"three tables", change(anonymous(), func(c *api.FaultCase) { c.Missing = 3 }), api.ErrRange},
		{"fewer tables than none", change(anonymous(), func(c *api.FaultCase) { c.Missing = -1 }), api.ErrRange},
		{"no protection", change(anonymous(), func(c *api.FaultCase) { c.Prot = 0 }), api.ErrArg},
		{"only writing", change(anonymous(), func(c *api.FaultCase) { c.Prot = api.ProtWrite }), api.ErrArg},
		{"kind before tables", api.FaultCase{Entry: 4, Missing: 3}, api.ErrArg},
		{"tables before protection", api.FaultCase{Region: true, Missing: 3}, api.ErrRange},
		{"protection before form", api.FaultCase{Region: true, Shared: true}, api.ErrArg},
		{"no region, but everything else", numbered(1<<14-1-2, 99, 3, 2), api.OK},
		{"no region, and no kind", numbered(0, 1, 5, 0), api.ErrArg},
		{"no region, and too many tables", numbered(0, 1, 0, 3), api.ErrRange},
		{"shared without a file", change(anonymous(), func(c *api.FaultCase) { c.Shared = true }), api.ErrForm},
		{"behind without a file", change(anonymous(), func(c *api.FaultCase) { c.Behind = true }), api.ErrForm},
		{"busy without a file", change(anonymous(), func(c *api.FaultCase) { c.Busy = true }), api.ErrForm},
		{"backed without a file", change(anonymous(), func(c *api.FaultCase) { c.Backed = true }), api.ErrForm},
		{"dirty without a file", change(anonymous(), func(c *api.FaultCase) { c.Dirty = true }), api.ErrForm},
		{"full without a file", change(anonymous(), func(c *api.FaultCase) { c.Full = true }), api.ErrForm},
		{"entry without its table", change(owned(api.EntryPage), func(c *api.FaultCase) { c.Missing = 1 }), api.ErrForm},
		{"own without an entry", change(anonymous(), func(c *api.FaultCase) { c.Own = true }), api.ErrForm},
		{"only without an entry", change(filed(api.EntryNone, false), func(c *api.FaultCase) { c.Only = true }), api.ErrForm},
		{"cached without a file", change(anonymous(), func(c *api.FaultCase) { c.Cached = true }), api.ErrForm},
		{"cached file", change(filed(api.EntryNone, false), func(c *api.FaultCase) { c.Cached = true }), api.OK},
		{"page that is cached", change(owned(api.EntryPage), func(c *api.FaultCase) { c.Cached = true }), api.ErrForm},
		{"moving page that is cached", change(owned(api.EntryMove), func(c *api.FaultCase) { c.Cached = true }), api.ErrForm},
		{"cached slot", change(owned(api.EntrySwap), func(c *api.FaultCase) { c.Cached = true }), api.OK},
		{"anonymous page that is not own", change(owned(api.EntryPage), func(c *api.FaultCase) { c.Own = false }), api.ErrForm},
		{"anonymous moving page that is not own", change(owned(api.EntryMove), func(c *api.FaultCase) { c.Own = false }), api.ErrForm},
		{"page of a file", filed(api.EntryPage, false), api.OK},
		{"moving page of a file", filed(api.EntryMove, false), api.OK},
		{"slot that is not own", filed(api.EntrySwap, false), api.ErrForm},
		{"own copy in a shared region", change(filed(api.EntryPage, true), func(c *api.FaultCase) { c.Own = true }), api.ErrForm},
		{"only, but not own", change(filed(api.EntryPage, false), func(c *api.FaultCase) { c.Only = true }), api.ErrForm},
		{"moving, but not in transit", change(owned(api.EntryMove), func(c *api.FaultCase) { c.Transit = false }), api.ErrForm},
		{"nothing in transit", change(filed(api.EntryNone, false), func(c *api.FaultCase) { c.Transit = true }), api.ErrForm},
		{"slot in transit", change(owned(api.EntrySwap), func(c *api.FaultCase) { c.Transit = true }), api.ErrForm},
		{"cached slot in transit", change(owned(api.EntrySwap), func(c *api.FaultCase) { c.Cached, c.Transit = true, true }), api.OK},
		{"page in transit", change(owned(api.EntryPage), func(c *api.FaultCase) { c.Transit = true }), api.OK},
		{"writable", change(owned(api.EntryPage), func(c *api.FaultCase) { c.Only, c.Writable = true, true }), api.OK},
		{"writable slot", change(owned(api.EntrySwap), func(c *api.FaultCase) { c.Only, c.Writable = true, true }), api.ErrForm},
		{"writable moving page", change(owned(api.EntryMove), func(c *api.FaultCase) { c.Only, c.Writable = true, true }), api.ErrForm},
		{"writable, but not by the region", change(owned(api.EntryPage), func(c *api.FaultCase) { c.Only, c.Writable, c.Prot = true, true, 1 }), api.ErrForm},
		{"writable, but not only", change(owned(api.EntryPage), func(c *api.FaultCase) { c.Writable = true }), api.ErrForm},
		{"writable and shared, but clean", change(filed(api.EntryPage, true), func(c *api.FaultCase) { c.Writable = true }), api.ErrForm},
		{"writable and dirty, but private", change(filed(api.EntryPage, false), func(c *api.FaultCase) { c.Writable, c.Dirty = true, true }), api.ErrForm},
		{"writable, shared and dirty", change(filed(api.EntryPage, true), func(c *api.FaultCase) { c.Writable, c.Dirty = true, true }), api.OK},
	} {
		if e := Check(x.c); e != x.want {
			t.Errorf("%s: Check = %d, want %d", x.what, e, x.want)
		}
		expect(t, x.c)
	}
}

// P26.1: one case for each rule of Plan, literally, and what it leaves.
func TestRules(t *testing.T) {
	write := func(c api.FaultCase) api.FaultCase { return change(c, func(c *api.FaultCase) { c.Write = true }) }
	missing := func(c api.FaultCase) api.FaultCase { return change(c, func(c *api.FaultCase) { c.Missing = 2 }) }
	cached := func(c api.FaultCase) api.FaultCase { return change(c, func(c *api.FaultCase) { c.Cached = true }) }
	only := func(c api.FaultCase) api.FaultCase { return change(c, func(c *api.FaultCase) { c.Only = true }) }
	constant := func(c api.FaultCase) api.FaultCase {
		return change(c, func(c *api.FaultCase) { c.Prot = api.ProtRead })
	}
	for _, x := range []struct {
		c    api.FaultCase
		plan api.FaultPlan
		then func(c *api.FaultCase)
	}{
		{change(anonymous(), func(c *api.FaultCase) { c.Region = false }), api.FaultPlan{Action: 1, Error: api.ErrFault}, nil},
		{constant(write(anonymous())), api.FaultPlan{Action: 1, Error: api.ErrAccess}, nil},
		{change(filed(0, true), func(c *api.FaultCase) { c.Behind, c.Busy = true, true }), api.FaultPlan{Action: 1, Error: api.ErrBus}, nil},
		{filed(1, true), api.FaultPlan{}, nil},
		{only(write(change(owned(1), func(c *api.FaultCase) { c.Writable, c.Transit = true, true }))), api.FaultPlan{}, nil},
		{change(filed(0, true), func(c *api.FaultCase) { c.Busy = true }), api.FaultPlan{Action: 2, Wait: api.WaitFile}, func(c *api.FaultCase) { c.Busy = false }},
		{cached(change(filed(0, true), func(c *api.FaultCase) { c.Transit = true })), api.FaultPlan{Action: 2, Wait: api.WaitFrame}, func(c *api.FaultCase) { c.Transit = false }},
		{owned(3), api.FaultPlan{Action: 2, Wait: api.WaitFrame}, func(c *api.FaultCase) { c.Transit, c.Entry = false, 1 }},
		{only(write(owned(1))), api.FaultPlan{Action: 8}, func(c *api.FaultCase) { c.Writable = true }},
		{write(owned(1)), api.FaultPlan{Action: 9, User: 1}, func(c *api.FaultCase) { c.Only, c.Writable = true, true }},
		{write(filed(1, false)), api.FaultPlan{Action: 9, User: 1}, func(c *api.FaultCase) { c.Own, c.Only, c.Writable = true, true, true }},
		{write(change(filed(1, true), func(c *api.FaultCase) { c.Full = true })), api.FaultPlan{Action: 2, Wait: api.WaitDirty}, func(c *api.FaultCase) { c.Full = false }},
		{write(filed(1, true)), api.FaultPlan{Action: 7}, func(c *api.FaultCase) { c.Dirty, c.Writable = true, true }},
		{write(change(filed(1, true), func(c *api.FaultCase) { c.Full, c.Dirty = true, true })), api.FaultPlan{Action: 7}, func(c *api.FaultCase) { c.Writable = true }},
		{cached(owned(2)), api.FaultPlan{Action: 10}, func(c *api.FaultCase) { c.Entry, c.Cached = 1, false }},
		{only(cached(owned(2))), api.FaultPlan{Action: 10}, func(c *api.FaultCase) { c.Entry, c.Cached, c.Writable = 1, false, true }},
		{constant(only(cached(owned(2)))), api.FaultPlan{Action: 10}, func(c *api.FaultCase) { c.Entry, c.Cached = 1, false }},
		{owned(2), api.FaultPlan{Action: 11, User: 1}, func(c *api.FaultCase) { c.Cached = true }},
		{missing(anonymous()), api.FaultPlan{Action: 3, Kernel: 2, User: 1}, func(c *api.FaultCase) { c.Entry, c.Missing, c.Own, c.Only, c.Writable = 1, 0, true, true, true }},
		{constant(anonymous()), api.FaultPlan{Action: 3, User: 1}, func(c *api.FaultCase) { c.Entry, c.Own, c.Only = 1, true, true }},
		{missing(cached(filed(0, true))), api.FaultPlan{Action: 6, Kernel: 2}, func(c *api.FaultCase) { c.Entry, c.Missing, c.Cached = 1, 0, false }},
		{missing(filed(0, false)), api.FaultPlan{Action: 4, Kernel: 2, User: 1}, func(c *api.FaultCase) { c.Cached = true }},
		{missing(change(filed(0, false), func(c *api.FaultCase) { c.Backed = true })), api.FaultPlan{Action: 5, User: 1}, func(c *api.FaultCase) { c.Cached = true }},
	} {
		expect(t, x.c)
		if p, e := Plan(x.c); p != x.plan || e != api.OK {
			t.Errorf("Plan(%+v) = %+v, %d, want %+v", x.c, p, e, x.plan)
		}
		want := x.c
		if x.then != nil {
			x.then(&want)
		}
		if next, end, e := After(x.c); next != want || end != (x.then == nil) || e != api.OK {
			t.Errorf("After(%+v) = %+v, %t, %d, want %+v", x.c, next, end, e, want)
		}
	}
}

// expectStep checks what P26.2 says of a single step.
func expectStep(t *testing.T, c, next api.FaultCase, p api.FaultPlan) {
	t.Helper()
	isIdle := p.Action == api.ActError || p.Action == api.ActWait || p.Action == api.ActNone
	switch {
	case p.User < 0 || p.User > 1 || p.Kernel != 0 && p.Kernel != c.Missing || isIdle && (p.User > 0 || p.Kernel > 0):
		t.Fatalf("%+v needs %+v", c, p)
	case !c.Shared && next.Dirty != c.Dirty, !c.Shared && p.Action == api.ActDirty:
		t.Fatalf("%+v makes a page of a private region dirty: %+v", c, p)
	case c.Shared && next.Own, c.Shared && p.Action == api.ActCopy:
		t.Fatalf("%+v copies a page of a shared region: %+v", c, p)
	}
}

// P26.2: every fault ends within eight steps, and is refused exactly if the first plan refuses it.
func TestConsequences(t *testing.T) {
	longest, ends := 0, map[int]int{}
	validCases(func(first api.FaultCase) {
		plan, _ := Plan(first)
		isRefused := plan.Action == api.ActError
		c, steps := first, 0
		for {
			p, e := Plan(c)
			next, end, after := After(c)
			steps++
			if e != api.OK || after != api.OK || steps > 8 {
				t.Fatalf("%+v leads to %+v: %d, %d after %d steps", first, c, e, after, steps)
			}
			expectStep(t, c, next, p)
			if end != (p.Action == api.ActNone || p.Action == api.ActError) || end && next != c {
				t.Fatalf("After(%+v) = %+v, %t", c, next, end)
			}
			if end {
				isPossible := c.Entry == api.EntryPage && (!c.Write || c.Writable)
				if isRefused != (p.Action == api.ActError) || !isRefused && !isPossible {
					t.Fatalf("%+v ends with %+v, refused: %t", first, c, isRefused)
				}
				ends[p.Action]++
				break
			}
			c = next
		}
		longest = max(longest, steps)
	})
	if longest < 6 || ends[api.ActNone] < 500 || ends[api.ActError] < 500 {
		t.Errorf("too few cases: %d steps at most, %v", longest, ends)
	}
}

// P26.2: the most frames that a step of each action needs.
func TestFramesNeeded(t *testing.T) {
	most := map[int]api.FaultPlan{}
	validCases(func(c api.FaultCase) {
		p, _ := Plan(c)
		m := most[p.Action]
		most[p.Action] = api.FaultPlan{Kernel: max(m.Kernel, p.Kernel), User: max(m.User, p.User)}
	})
	for action, want := range map[int]api.FaultPlan{
		api.ActNone: {}, api.ActError: {}, api.ActWait: {}, api.ActZero: {Kernel: 2, User: 1}, api.ActFresh: {Kernel: 2, User: 1}, api.ActRead: {User: 1},
		api.ActMap: {Kernel: 2}, api.ActDirty: {}, api.ActReuse: {}, api.ActCopy: {User: 1}, api.ActCached: {}, api.ActSwapIn: {User: 1},
	} {
		if most[action] != want {
			t.Errorf("action %d needs %+v, want %+v", action, most[action], want)
		}
	}
	if len(most) != 12 {
		t.Errorf("%d actions", len(most))
	}
}

// The examples of the chapter.
func TestExamples(t *testing.T) {
	c := anonymous()
	c.Write, c.Missing = true, 2
	if p, e := Plan(c); p != (api.FaultPlan{Action: api.ActZero, Kernel: 2, User: 1}) || e != api.OK {
		t.Errorf("1: %+v, %d", p, e)
	}
	c, end, e := After(c)
	if p, _ := Plan(c); p != (api.FaultPlan{Action: api.ActNone}) || end || e != api.OK {
		t.Errorf("1, afterwards: %+v, %t, %d", p, end, e)
	}
	if _, end, e := After(c); !end || e != api.OK {
		t.Errorf("1, at the end: %t, %d", end, e)
	}
	for _, x := range []struct {
		isShared, isFull bool
		want             api.FaultPlan
	}{
		{false, false, api.FaultPlan{Action: api.ActCopy, User: 1}},
		{false, true, api.FaultPlan{Action: api.ActCopy, User: 1}},
		{true, false, api.FaultPlan{Action: api.ActDirty}},
		{true, true, api.FaultPlan{Action: api.ActWait, Wait: api.WaitDirty}},
	} {
		c := filed(api.EntryPage, x.isShared)
		c.Write, c.Full = true, x.isFull
		if p, e := Plan(c); p != x.want || e != api.OK {
			t.Errorf("2: %+v, %d, want %+v", p, e, x.want)
		}
	}
	c = filed(api.EntryPage, false)
	c.Behind = true
	if p, e := Plan(c); p != (api.FaultPlan{Action: api.ActError, Error: api.ErrBus}) || e != api.OK {
		t.Errorf("3: %+v, %d", p, e)
	}
	c.Own = true
	if p, e := Plan(c); p != (api.FaultPlan{Action: api.ActNone}) || e != api.OK {
		t.Errorf("3, copied: %+v, %d", p, e)
	}
}
