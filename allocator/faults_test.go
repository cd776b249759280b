package allocator

import (
	"math"
	"slices"
	"testing"

	"estovers/api"
)

// fault is a change of the sample, with the result of Check.
type fault struct {
	what   string
	change func(a *api.Allocator)
	want   int
}

// zoneFault changes a zone, if there is such a zone.
func zoneFault(what string, zone int, change func(z *api.Zone), want int) fault {
	return fault{what, func(a *api.Allocator) {
		if zone < len(a.Zones) {
			change(&a.Zones[zone])
		}
	}, want}
}

// listFault replaces a list of a cache, if there is such a list.
func listFault(what string, cpu, zone, want int, list ...int) fault {
	return fault{what, func(a *api.Allocator) {
		if cpu < len(a.Caches) && zone < len(a.Caches[cpu].Lists) {
			a.Caches[cpu].Lists[zone] = list
		}
	}, want}
}

// both makes two changes.
func both(f, g fault, want int) fault {
	return fault{f.what + ", and " + g.what, func(a *api.Allocator) {
		f.change(a)
		g.change(a)
	}, want}
}

// machineFaults are about the numbers of the machine.
func machineFaults() []fault {
	return []fault{
		{"nothing", func(a *api.Allocator) {}, api.OK},
		{"no processors", func(a *api.Allocator) { a.Nodes = nil }, api.ErrRange},
		{"no processors and no caches", func(a *api.Allocator) { a.Nodes, a.Caches = nil, nil }, api.ErrRange},
		{"four processors", func(a *api.Allocator) { a.Nodes = []int{0, 2, 1, 0} }, api.ErrForm},
		{"five processors", func(a *api.Allocator) { a.Nodes = []int{0, 2, 1, 0, 0} }, api.ErrRange},
		{"node -1", func(a *api.Allocator) { a.Nodes = []int{0, 2, -1} }, api.ErrRange},
		{"node 4", func(a *api.Allocator) { a.Nodes = []int{4, 2, 1} }, api.ErrRange},
		{"node 3", func(a *api.Allocator) { a.Nodes = []int{3, 3, 3} }, api.OK},
		{"the least node", func(a *api.Allocator) { a.Nodes = []int{0, math.MinInt, 1} }, api.ErrRange},
		{"the greatest node", func(a *api.Allocator) { a.Nodes = []int{0, math.MaxInt, 1} }, api.ErrRange},
		{"batch 0", func(a *api.Allocator) { a.Batch = 0 }, api.ErrRange},
		{"batch -1", func(a *api.Allocator) { a.Batch = -1 }, api.ErrRange},
		{"batch 1", func(a *api.Allocator) { a.Batch = 1 }, api.OK},
		{"batch 3", func(a *api.Allocator) { a.Batch = 3 }, api.OK},
		{"batch 4", func(a *api.Allocator) { a.Batch = 4 }, api.ErrRange},
		{"the least batch", func(a *api.Allocator) { a.Batch = math.MinInt }, api.ErrRange},
		{"the greatest batch", func(a *api.Allocator) { a.Batch = math.MaxInt }, api.ErrRange},
		{"batch and high 0", func(a *api.Allocator) { a.Batch, a.High = 0, 0 }, api.ErrRange},
		{"high 64", func(a *api.Allocator) { a.High = 64 }, api.OK},
		{"high 65", func(a *api.Allocator) { a.High = 65 }, api.ErrRange},
		{"batch and high 65", func(a *api.Allocator) { a.Batch, a.High = 65, 65 }, api.ErrRange},
		{"the greatest high", func(a *api.Allocator) { a.High = math.MaxInt }, api.ErrRange},
		{"high 2", func(a *api.Allocator) { a.High = 2 }, api.ErrLimit},
		{"high 1", func(a *api.Allocator) { a.High = 1 }, api.ErrRange},
		{"no zones", func(a *api.Allocator) { a.Zones = nil }, api.ErrRange},
		{"two zones", func(a *api.Allocator) { a.Zones = slices.Clone(a.Zones[:min(2, len(a.Zones))]) }, api.ErrForm},
		{"seven zones", func(a *api.Allocator) { a.Zones = make([]api.Zone, 7) }, api.ErrRange},
	}
}

// zoneFaults are about the zones.
func zoneFaults() []fault {
	first := func(start int, want int) fault {
		return zoneFault("another first start", 0, func(z *api.Zone) { z.Start, z.Count, z.Free = start, 10-start, [5][]int{} }, want)
	}
	second := func(start, count int) fault {
		return zoneFault("another second start", 1, func(z *api.Zone) { z.Start, z.Count, z.Free = start, count, [5][]int{} }, api.ErrOrder)
	}
	third := func(start int) fault {
		return zoneFault("another third start", 2, func(z *api.Zone) { z.Start = start }, api.ErrOrder)
	}
	odd := zoneFault("a zone with an odd minimum", 0, func(z *api.Zone) { z.Min = -1 }, api.ErrRange)
	return []fault{
		odd,
		zoneFault("a minimum above the count", 2, func(z *api.Zone) { z.Min = 5 }, api.ErrRange),
		zoneFault("a minimum that is the count", 2, func(z *api.Zone) { z.Min = 4 }, api.OK),
		zoneFault("node 4 of a zone", 1, func(z *api.Zone) { z.Node = 4 }, api.ErrRange),
		zoneFault("kind 2", 1, func(z *api.Zone) { z.Kind = 2 }, api.ErrRange),
		zoneFault("the greatest count", 2, func(z *api.Zone) { z.Count = math.MaxInt }, api.ErrRange),
		zoneFault("the greatest start", 2, func(z *api.Zone) { z.Start = math.MaxInt }, api.ErrRange),
		zoneFault("a block that is none", 1, func(z *api.Zone) { z.Free[1] = []int{15} }, api.ErrForm),
		zoneFault("descending blocks", 0, func(z *api.Zone) { z.Free[0] = []int{6, 3} }, api.ErrOrder),
		zoneFault("a frame in two blocks", 1, func(z *api.Zone) { z.Free[0] = []int{14, 17} }, api.ErrExist),
		zoneFault("two buddies", 1, func(z *api.Zone) { z.Free[0] = []int{14, 15} }, api.ErrState),
		zoneFault("two blocks that are no buddies", 1, func(z *api.Zone) { z.Free[0] = []int{13, 14} }, api.OK),
		zoneFault("another node", 0, func(z *api.Zone) { z.Node = 3 }, api.OK),
		zoneFault("another kind", 2, func(z *api.Zone) { z.Kind = api.ZoneMovable }, api.OK),
		zoneFault("a longer last zone", 2, func(z *api.Zone) { z.Count = 228 }, api.OK),
		zoneFault("a last zone that is too long", 2, func(z *api.Zone) { z.Count = 229 }, api.ErrRange),
		zoneFault("a longer first zone", 0, func(z *api.Zone) { z.Count = 11 }, api.ErrOrder),
		first(0, api.OK), first(1, api.ErrOrder), first(-1, api.ErrRange),
		second(11, 17), second(9, 19), second(0, 28), third(29), third(27), third(0),
		both(first(1, 0), zoneFault("then an odd minimum", 1, func(z *api.Zone) { z.Min = 99 }, 0), api.ErrOrder),
		both(odd, second(11, 17), api.ErrRange),
		both(zoneFault("two buddies", 1, func(z *api.Zone) { z.Free[0] = []int{14, 15} }, 0), third(29), api.ErrState),
		both(third(29), zoneFault("an odd minimum of the same zone", 2, func(z *api.Zone) { z.Min = 5 }, 0), api.ErrRange),
		{"the zones in another order", func(a *api.Allocator) { slices.Reverse(a.Zones) }, api.ErrOrder},
	}
}

// cacheFaults are about the caches.
func cacheFaults() []fault {
	fewLists := fault{"a cache with two lists", func(a *api.Allocator) {
		if len(a.Caches) > 1 {
			a.Caches[1].Lists = [][]int{{}, {}}
		}
	}, api.ErrForm}
	return []fault{
		{"no caches", func(a *api.Allocator) { a.Caches = nil }, api.ErrForm},
		{"two caches", func(a *api.Allocator) { a.Caches = a.Caches[:min(2, len(a.Caches))] }, api.ErrForm},
		{"four caches", func(a *api.Allocator) {
			a.Caches = append(slices.Clone(a.Caches), api.CpuCache{Lists: make([][]int, 3)})
		}, api.ErrForm},
		fewLists,
		{"a cache with four lists", func(a *api.Allocator) {
			if len(a.Caches) > 2 {
				a.Caches[2].Lists = make([][]int, 4)
			}
		}, api.ErrForm},
		{"empty caches", func(a *api.Allocator) {
			for cpu := range a.Caches {
				a.Caches[cpu].Lists = make([][]int, 3)
			}
		}, api.OK},
		listFault("frame -1", 1, 1, api.ErrRange, 12, -1),
		listFault("frame 256", 2, 2, api.ErrRange, 256),
		listFault("the least frame", 2, 2, api.ErrRange, math.MinInt),
		listFault("the greatest frame", 0, 0, api.ErrRange, math.MaxInt),
		listFault("a frame twice in a list", 2, 2, api.ErrExist, 31, 31),
		listFault("a frame in two lists of a cache", 2, 0, api.ErrExist, 31),
		listFault("four frames", 1, 1, api.ErrLimit, 12, 11, 10, 13),
		listFault("three frames", 1, 1, api.OK, 12, 11, 10),
		listFault("four frames, of which two are the same", 1, 1, api.ErrExist, 12, 11, 10, 12),
		both(listFault("four frames", 0, 1, 0, 10, 13, 15, 26), fewLists, api.ErrLimit),
		both(listFault("four frames", 2, 1, 0, 10, 13, 15, 26), fewLists, api.ErrForm),
		listFault("a frame of another zone", 1, 0, api.ErrRange, 10),
		listFault("a frame of another zone, before it", 1, 2, api.ErrRange, 27),
		listFault("a frame behind all zones", 1, 2, api.ErrRange, 32),
		listFault("a free frame of another zone", 1, 2, api.ErrRange, 6),
		listFault("a free frame", 1, 0, api.ErrExist, 6),
		listFault("a frame in a free block", 1, 1, api.ErrExist, 13, 23),
		listFault("a frame of the cache before", 1, 0, api.ErrExist, 9),
		listFault("a frame of the first cache", 2, 2, api.ErrExist, 31, 28),
		listFault("a free frame, then one of another zone", 1, 1, api.ErrExist, 16, 8),
		listFault("a frame of another zone, then a free one", 1, 1, api.ErrRange, 8, 16),
		both(listFault("a free frame", 1, 0, 0, 6), listFault("one of another zone in the next list", 1, 1, 0, 8), api.ErrExist),
		both(listFault("a frame of another zone", 1, 0, 0, 10), listFault("a free one in the next list", 1, 1, 0, 16), api.ErrRange),
		both(listFault("a frame of another zone in the last cache", 2, 0, 0, 10), listFault("a free one before", 1, 2, 0, 28), api.ErrExist),
		both(listFault("a free frame", 0, 0, 0, 6), listFault("four frames in the last cache", 2, 1, 0, 10, 13, 15, 26), api.ErrLimit),
		both(listFault("a free frame", 0, 0, 0, 6), listFault("no frame in the last cache", 2, 1, 0, 256), api.ErrRange),
		both(listFault("a frame of another zone", 0, 0, 0, 10), listFault("twice the same in the last cache", 2, 1, 0, 13, 13), api.ErrExist),
	}
}

func faults() []fault { return slices.Concat(machineFaults(), zoneFaults(), cacheFaults()) }

// P17.1, with literal errors, and what the other functions say of these allocators.
func TestFaults(t *testing.T) {
	all := actionsFor([]int{-1, 0, 2}, []int{-1, 2, 3, 11, 15, 30, 99}, []int{-1, 0, 1, 5})
	for _, f := range faults() {
		a := sample()
		f.change(&a)
		if e := Check(a); e != f.want {
			t.Errorf("%s: Check = %d, want %d", f.what, e, f.want)
		}
		expectLooks(t, a, []int{-1, 0, 2, 3, 31, 32}, []int{-1, 0, 2, 3})
		for _, act := range all {
			expect(t, a, act)
		}
	}
}

// P17.1: of two faults the one that Check names first is its result.
func TestPairsOfFaults(t *testing.T) {
	for _, f := range faults() {
		for _, g := range faults() {
			a := sample()
			f.change(&a)
			g.change(&a)
			expectLooks(t, a, []int{11}, []int{1})
			expect(t, a, allocAction(1, false, false))
			expect(t, a, freeAction(2, 30))
		}
	}
}

// P17.1: lists and zones that are very long.
func TestLongLists(t *testing.T) {
	a := sample()
	a.Caches[0].Lists[0] = make([]int, 1<<20)
	expectLooks(t, a, []int{0}, []int{0})
	a = sample()
	a.Nodes = make([]int, 1<<20)
	expectLooks(t, a, []int{0}, []int{0})
	a = sample()
	a.Zones = make([]api.Zone, 1<<16)
	expectLooks(t, a, []int{0}, []int{0})
	a = sample()
	a.Caches = make([]api.CpuCache, 1<<20)
	expectLooks(t, a, []int{0}, []int{0})
	a = sample()
	a.Zones[1].Free[0] = make([]int, 1<<20)
	expectLooks(t, a, []int{0}, []int{0})
	expectLooks(t, api.Allocator{}, limits(), limits())
	for _, act := range actionsFor(limits()[:8], limits()[:8], limits()[:8]) {
		expect(t, api.Allocator{}, act)
	}
}

// P17.3 to P17.7: which error comes first.
func TestFirstError(t *testing.T) {
	few := sample()
	few.Zones[0].Min = 7
	none := sample()
	none.Zones[0].Min, none.Zones[1].Min, none.Zones[2].Min = 7, 14, 3
	for _, x := range []struct {
		a    api.Allocator
		act  action
		want int
	}{
		{none, allocAction(3, false, true), api.ErrRange},
		{none, allocAction(-1, false, false), api.ErrRange},
		{none, allocAction(2, false, false), api.ErrMemory},
		{none, allocAction(2, false, true), api.OK},
		{none, blockAction(3, 0), api.ErrRange},
		{none, blockAction(0, 5), api.ErrRange},
		{none, blockAction(0, -1), api.ErrRange},
		{none, blockAction(0, 0), api.ErrMemory},
		{sample(), blockAction(0, 3), api.OK},
		{sample(), blockAction(0, 4), api.ErrMemory},
		{sample(), freeAction(3, 6), api.ErrRange},
		{sample(), freeAction(0, 32), api.ErrRange},
		{sample(), freeAction(0, -1), api.ErrRange},
		{sample(), freeAction(0, 6), api.ErrExist},
		{sample(), freeAction(1, 9), api.ErrExist},
		{sample(), freeAction(1, 8), api.OK},
		{sample(), freeBlockAction(6, 5), api.ErrRange},
		{sample(), freeBlockAction(6, -1), api.ErrRange},
		{sample(), freeBlockAction(32, 0), api.ErrRange},
		{sample(), freeBlockAction(-2, 1), api.ErrRange},
		{sample(), freeBlockAction(5, 1), api.ErrRange},
		{sample(), freeBlockAction(8, 2), api.ErrRange},
		{sample(), freeBlockAction(8, 1), api.ErrExist},
		{sample(), freeBlockAction(4, 1), api.ErrExist},
		{sample(), freeBlockAction(6, 1), api.ErrExist},
		{sample(), freeBlockAction(28, 2), api.ErrExist},
		{sample(), freeBlockAction(30, 0), api.OK},
		{few, takeAction(32), api.ErrRange},
		{few, takeAction(8), api.ErrNone},
		{few, takeAction(6), api.ErrMemory},
		{few, takeAction(9), api.ErrMemory},
		{few, takeAction(27), api.OK},
	} {
		if got := expect(t, x.a, x.act); got.e != x.want {
			t.Errorf("%s has the error %d, want %d", x.act.what, got.e, x.want)
		}
	}
}
