package allocator

import (
	"maps"
	"math"
	"math/rand"
	"slices"
	"testing"

	"estovers/api"
)

// limits are the limits of int and of the machine, and the numbers beside them.
func limits() []int {
	return []int{math.MinInt, math.MinInt + 1, -1 << 32, -2, -1, 0, 1, 2, 3, 4, 5, 6, 7, 63, 64, 65, 255, 256, 257, 1 << 32, math.MaxInt - 1, math.MaxInt}
}

// sample returns an allocator with frames in all places: of zone 0 the frames 3, 5 and 8 are held, of zone 1 the frames 10, 13, 15 and 26, of zone 2 the frame 30.
func sample() api.Allocator {
	return api.Allocator{
		Nodes: []int{0, 2, 1}, Batch: 2, High: 3,
		Zones: []api.Zone{
			{Node: 1, Kind: api.ZoneNormal, Start: 0, Count: 10, Min: 2, Free: [5][]int{{6}, {0}}},
			{Node: 0, Kind: api.ZoneMovable, Start: 10, Count: 18, Min: 3, Free: [5][]int{{14}, {24}, nil, {16}}},
			{Node: 2, Kind: api.ZoneNormal, Start: 28, Count: 4, Min: 0},
		},
		Caches: []api.CpuCache{
			{Lists: [][]int{{4, 2, 9}, {}, {28}}},
			{Lists: [][]int{{}, {12, 11}, nil}},
			{Lists: [][]int{{7}, {27}, {31, 29}}},
		},
	}
}

// actionsFor are calls with all combinations of these arguments.
func actionsFor(cpus, frames, orders []int) []action {
	var out []action
	for _, cpu := range cpus {
		for _, kernel := range []bool{true, false} {
			out = append(out, allocAction(cpu, kernel, false), allocAction(cpu, kernel, true))
		}
		for _, order := range orders {
			out = append(out, blockAction(cpu, order))
		}
		for _, frame := range frames {
			out = append(out, freeAction(cpu, frame))
		}
	}
	for _, frame := range frames {
		out = append(out, takeAction(frame))
		for _, order := range orders {
			out = append(out, freeBlockAction(frame, order))
		}
	}
	return out
}

// numbers are the numbers from one to another, and those beside them.
func numbers(from, to int) []int {
	var out []int
	for n := from - 1; n <= to+1; n++ {
		out = append(out, n)
	}
	return out
}

// P17.3 to P17.8: all arguments of a machine with frames in all places.
func TestSample(t *testing.T) {
	for _, least := range [][]int{{2, 3, 0}, {7, 14, 3}, {6, 13, 2}, {7, 12, 3}, {10, 5, 4}, {5, 18, 1}, {0, 0, 0}, {10, 18, 4}, {7, 6, 2}, {5, 7, 3}} {
		for _, kinds := range [][]int{{0, 1, 0}, {1, 0, 1}, {1, 1, 1}, {0, 0, 0}} {
			a := sample()
			for zone := range a.Zones {
				a.Zones[zone].Min, a.Zones[zone].Kind = least[zone], kinds[zone]
			}
			expectLooks(t, a, numbers(0, 32), numbers(0, 3))
			for _, act := range actionsFor(numbers(0, 2), numbers(0, 31), numbers(0, 4)) {
				expect(t, a, act)
			}
		}
	}
}

// P17.3 to P17.8: arguments beside the limits.
func TestLimits(t *testing.T) {
	expectLooks(t, sample(), limits(), limits())
	for _, act := range actionsFor(limits(), limits(), limits()) {
		expect(t, sample(), act)
	}
}

// smallMachines are all machines of two processors and two zones of two frames, with some sizes, whose lists are ascending or descending.
func smallMachines() []api.Allocator {
	var out []api.Allocator
	for number := range 256 {
		for _, least := range [][]int{{0, 0}, {1, 0}, {2, 1}} {
			for _, sizes := range [][]int{{1, 2}, {2, 2}, {3, 5}} {
				out = append(out, smallMachine(number, least, sizes, false))
				if sizes[0] == 2 {
					out = append(out, smallMachine(number, least, sizes, true))
				}
			}
		}
	}
	return out
}

// smallMachine returns a machine in which each of four frames is held, free in its zone, or in one of two caches.
func smallMachine(number int, least, sizes []int, descending bool) api.Allocator {
	a, _ := New([]int{0, 1}, sizes[0], sizes[1], []api.ZoneSpec{{Node: 0, Kind: api.ZoneNormal, Count: 2, Min: least[0]}, {Node: 1, Kind: api.ZoneMovable, Count: 2, Min: least[1]}})
	free := make([][]int, 2)
	for frame := range 4 {
		zone := frame / 2
		switch place := number >> (2 * frame) & 3; place {
		case 1:
			free[zone] = append(free[zone], frame)
		case 2, 3:
			l := &a.Caches[place-2].Lists[zone]
			if *l = append(*l, frame); descending {
				slices.Reverse(*l)
			}
		}
	}
	setZone(a, 0, free[0])
	setZone(a, 1, free[1])
	return a
}

// P17.3 to P17.8: all functions, for all small machines.
func TestSmallMachines(t *testing.T) {
	all := actionsFor([]int{0, 1}, []int{0, 1, 2, 3}, []int{0, 1})
	for _, a := range smallMachines() {
		if e := Check(a); e != api.OK {
			t.Fatalf("Check(%v) = %d", a, e)
		}
		expectLooks(t, a, []int{0, 1, 2, 3}, []int{0, 1})
		for _, act := range all {
			expect(t, a, act)
		}
	}
}

// randomMachine returns a machine of which all frames are free.
func randomMachine(random *rand.Rand) api.Allocator {
	var nodes []int
	for range 1 + random.Intn(4) {
		nodes = append(nodes, random.Intn(4))
	}
	high := 1 + random.Intn([]int{3, 10, 64}[random.Intn(3)])
	var zones []api.ZoneSpec
	number, largest := 1+random.Intn(6), []int{5, 20, 42}[random.Intn(3)]
	for range number {
		count := 1 + random.Intn(largest)
		least := random.Intn(1 + random.Intn(count+1))
		zones = append(zones, api.ZoneSpec{Node: random.Intn(4), Kind: random.Intn(2), Count: count, Min: least})
	}
	a, _ := New(nodes, 1+random.Intn(high), high, zones)
	return a
}

// randomAction returns a call that mostly has no error, unless there is nothing left.
func randomAction(random *rand.Rand, a api.Allocator, weight int) action {
	cpu := random.Intn(len(a.Nodes))
	frame := random.Intn(Frames(a)+2) - 1
	order := random.Intn(5)
	if held := heldFrames(a); len(held) > 0 && random.Intn(10) > 0 {
		frame = held[random.Intn(len(held))]
	}
	switch n := random.Intn(20); {
	case n < weight:
		return allocAction(cpu, random.Intn(3) == 0, random.Intn(4) == 0)
	case n == 16:
		return blockAction(cpu, order)
	case n == 17:
		return freeBlockAction(frame>>order<<order, order)
	case n == 18:
		return takeAction(random.Intn(Frames(a)))
	case n == 19:
		return takeAction(frame)
	}
	return freeAction(cpu, frame)
}

// heldFrames are the frames that are not free.
func heldFrames(a api.Allocator) []int {
	var out []int
	for frame := range Frames(a) {
		if !isFreeFrame(a, frame) {
			out = append(out, frame)
		}
	}
	return out
}

// P17.3 to P17.9: random sequences.
func TestRandomSequences(t *testing.T) {
	random := rand.New(rand.NewSource(1))
	for range 60 {
		a := randomMachine(random)
		for step := range 120 {
			weight := 11
			if step/40 == 1 {
				weight = 5
			}
			act := randomAction(random, a, weight)
			if got := expect(t, a, act); got.e == api.OK {
				a = got.a
			}
			if step%20 == 0 {
				expectLooks(t, a, numbers(0, Frames(a)-1), numbers(0, 6))
			}
		}
	}
}

// P17.9: Alloc without reserve succeeds exactly if some zone that suits has room; with reserve, if it has a free frame.
func TestAllocSucceeds(t *testing.T) {
	for _, a := range append(smallMachines(), sample()) {
		for cpu := range a.Nodes {
			for _, kernel := range []bool{true, false} {
				hasRoom, hasFrame := false, false
				for zone, z := range a.Zones {
					if z.Kind == api.ZoneNormal || !kernel {
						hasRoom = hasRoom || Count(a, zone) > z.Min
						hasFrame = hasFrame || Count(a, zone) > 0
					}
				}
				for reserve, want := range map[bool]bool{false: hasRoom, true: hasFrame} {
					out, frame, e := Alloc(a, cpu, kernel, reserve)
					if want != (e == api.OK) || !want && e != api.ErrMemory {
						t.Fatalf("Alloc(%v, %d, %t, %t) = %d, %d", a, cpu, kernel, reserve, frame, e)
					}
					if want && (!IsFree(a, frame) || IsFree(out, frame)) {
						t.Fatalf("Alloc(%v, %d, %t, %t) takes %d", a, cpu, kernel, reserve, frame)
					}
				}
			}
		}
	}
}

// P17.9: the frames of the headroom can be taken, by whatever processors.
func TestHeadroomSuffices(t *testing.T) {
	random := rand.New(rand.NewSource(2))
	for range 150 {
		a := randomMachine(random)
		for range random.Intn(60) {
			if got := randomAction(random, a, 14).do(a); got.e == api.OK {
				a = got.a
			}
		}
		normal, all := Headroom(a)
		if normal < 0 || all < 0 {
			continue
		}
		kernel := random.Intn(1 + min(normal, all))
		if random.Intn(2) == 0 {
			kernel = min(normal, all)
		}
		for i := range all {
			out, frame, e := Alloc(a, random.Intn(len(a.Nodes)), i < kernel, false)
			if e != api.OK || i < kernel && a.Zones[Zone(a, frame)].Kind != api.ZoneNormal {
				t.Fatalf("Alloc(%v) of the frame number %d of %d and %d = %d, %d", a, i, kernel, all-kernel, frame, e)
			}
			a = out
		}
	}
}

// holder is who has taken frames: it knows for each of them that it is its own.
type holder struct {
	a      api.Allocator
	holds  map[int]bool
	random *rand.Rand
}

func (h *holder) take(t *testing.T, first, order int) {
	t.Helper()
	for frame := first; frame < first+1<<order; frame++ {
		if h.holds[frame] {
			t.Fatalf("the frame %d of %v is taken twice", frame, h.a)
		}
		h.holds[frame] = true
	}
}

// step takes one frame or a block of frames, or gives a frame back.
func (h *holder) step(t *testing.T) {
	cpu := h.random.Intn(len(h.a.Nodes))
	before := h.a
	switch order := h.random.Intn(5); h.random.Intn(4) {
	case 0:
		if a, frame, e := AllocBlock(before, cpu, order); e == api.OK {
			h.a = a
			h.take(t, frame, order)
		}
	case 1:
		held := slices.Sorted(maps.Keys(h.holds))
		if len(held) > 0 {
			h.give(t, cpu, held[h.random.Intn(len(held))])
		}
	case 2:
		frame := h.random.Intn(Frames(before))
		if a, e := Take(before, frame); e == api.OK {
			h.a = a
			h.take(t, frame, 0)
		}
	case 3:
		if a, frame, e := Alloc(before, cpu, h.random.Intn(2) == 0, h.random.Intn(2) == 0); e == api.OK {
			h.a = a
			h.take(t, frame, 0)
		}
	}
}

// give gives a frame back, or the greatest block around it that is held.
func (h *holder) give(t *testing.T, cpu, frame int) {
	t.Helper()
	for order := 4; order >= 0 && h.random.Intn(3) > 0; order-- {
		first := frame >> order << order
		isHeld := true
		for f := first; f < first+1<<order; f++ {
			isHeld = isHeld && h.holds[f]
		}
		if !isHeld || Zone(h.a, first) != Zone(h.a, first+1<<order-1) {
			continue
		}
		a, e := FreeBlock(h.a, first, order)
		if e != api.OK {
			t.Fatalf("FreeBlock(%v, %d, %d) has the error %d", h.a, first, order, e)
		}
		for f := first; f < first+1<<order; f++ {
			delete(h.holds, f)
		}
		h.a = a
		return
	}
	a, e := Free(h.a, cpu, frame)
	if e != api.OK {
		t.Fatalf("Free(%v, %d, %d) has the error %d", h.a, cpu, frame, e)
	}
	delete(h.holds, frame)
	h.a = a
}

// P17.9: each frame is free or held, and when all have been given back, the allocator is the one that New returned.
func TestAllGivenBack(t *testing.T) {
	random := rand.New(rand.NewSource(3))
	for range 60 {
		h := holder{randomMachine(random), map[int]bool{}, random}
		first := h.a
		for range 100 {
			h.step(t)
			for frame := range Frames(first) {
				if IsFree(h.a, frame) == h.holds[frame] {
					t.Fatalf("the frame %d of %v is lost, or has two owners", frame, h.a)
				}
			}
		}
		for _, frame := range slices.Sorted(maps.Keys(h.holds)) {
			// It may have gone with a block.
			if h.holds[frame] {
				h.give(t, random.Intn(len(first.Nodes)), frame)
			}
		}
		if last := Drain(h.a); !same(last, first) {
			t.Fatalf("when all is given back, %v is not %v", last, first)
		}
	}
}

// P17.2
func TestNew(t *testing.T) {
	one := []api.ZoneSpec{{Node: 1, Kind: api.ZoneMovable, Count: 5, Min: 2}}
	three := append(slices.Clone(one), api.ZoneSpec{Node: 3, Count: 23, Min: 23}, api.ZoneSpec{Count: 2})
	for _, high := range limits() {
		for _, batch := range append(limits(), high-1, high+1) {
			expectNew(t, []int{0}, batch, high, one)
		}
	}
	for _, node := range limits() {
		expectNew(t, []int{node}, 1, 1, one)
		expectNew(t, []int{0, 3, node}, 1, 1, one)
		expectNew(t, []int{node, 1, 1, 2}, 1, 1, three)
	}
	for n := range 9 {
		expectNew(t, make([]int, n), 2, 4, three)
		expectNew(t, []int{1, 0}, 2, 4, slices.Repeat(one, n))
		expectNew(t, []int{1, 0}, 0, 4, slices.Repeat(one, n))
	}
	for _, c := range []struct {
		what string
		e    int
		got  int
	}{
		{"six zones", api.OK, errorOfNew([]int{0}, 1, 1, slices.Repeat(one, 6))},
		{"seven zones", api.ErrRange, errorOfNew([]int{0}, 1, 1, slices.Repeat(one, 7))},
		{"no zones", api.ErrRange, errorOfNew([]int{0}, 1, 1, nil)},
		{"four processors", api.OK, errorOfNew([]int{0, 3, 3, 1}, 1, 1, one)},
		{"five processors", api.ErrRange, errorOfNew([]int{0, 3, 3, 1, 2}, 1, 1, one)},
		{"no processors", api.ErrRange, errorOfNew(nil, 1, 1, one)},
		{"node 4", api.ErrRange, errorOfNew([]int{0, 4}, 1, 1, one)},
		{"node -1", api.ErrRange, errorOfNew([]int{-1}, 1, 1, one)},
		{"batch 0", api.ErrRange, errorOfNew([]int{0}, 0, 1, one)},
		{"batch 64 of 64", api.OK, errorOfNew([]int{0}, 64, 64, one)},
		{"batch 3 of 2", api.ErrRange, errorOfNew([]int{0}, 3, 2, one)},
		{"high 65", api.ErrRange, errorOfNew([]int{0}, 1, 65, one)},
	} {
		if c.got != c.e {
			t.Errorf("%s: New has the error %d, want %d", c.what, c.got, c.e)
		}
	}
}

// P17.2: zones of which one is not in range.
func TestNewZones(t *testing.T) {
	good := []api.ZoneSpec{{Node: 1, Kind: api.ZoneMovable, Count: 5, Min: 2}, {Node: 3, Count: 23, Min: 23}, {Count: 2}}
	for zone := range good {
		for _, n := range limits() {
			for field := range 4 {
				zones := slices.Clone(good)
				*[]*int{&zones[zone].Node, &zones[zone].Kind, &zones[zone].Count, &zones[zone].Min}[field] = n
				expectNew(t, []int{0, 2}, 1, 3, zones)
			}
		}
	}
	for _, counts := range [][]int{{256}, {257}, {255, 1}, {255, 2}, {100, 100, 56}, {100, 100, 57}, {1, 1, 1, 1, 1, 251}, {1, 1, 1, 1, 1, 252}, {math.MaxInt, 1}, {1, math.MaxInt}, {200, math.MaxInt, math.MaxInt}} {
		var zones []api.ZoneSpec
		for _, n := range counts {
			zones = append(zones, api.ZoneSpec{Count: n})
		}
		expectNew(t, []int{0}, 1, 1, zones)
	}
}

func errorOfNew(nodes []int, batch, high int, zones []api.ZoneSpec) int {
	_, e := New(nodes, batch, high, zones)
	return e
}

// expectNew compares New with its promise.
func expectNew(t *testing.T, nodes []int, batch, high int, zones []api.ZoneSpec) {
	t.Helper()
	got, e := New(nodes, batch, high, zones)
	isRight := isPossible(nodes, batch, high, len(zones))
	want := api.Allocator{Nodes: nodes, Batch: batch, High: high}
	start := 0
	for _, z := range zones {
		// A count that is too great would make the next start too great for an int.
		isRight = isRight && z.Node >= 0 && z.Node <= 3 && (z.Kind == 0 || z.Kind == 1) && z.Count >= 1 && z.Count <= 256-start && z.Min >= 0 && z.Min <= z.Count
		if !isRight {
			break
		}
		want.Zones = append(want.Zones, api.Zone{Node: z.Node, Kind: z.Kind, Start: start, Count: z.Count, Min: z.Min})
		setZone(want, len(want.Zones)-1, numbers(start+1, start+z.Count-2))
		start += z.Count
	}
	wantError := api.OK
	if !isRight {
		want, wantError = api.Allocator{}, api.ErrRange
	} else {
		for range nodes {
			want.Caches = append(want.Caches, api.CpuCache{Lists: make([][]int, len(zones))})
		}
	}
	if e != wantError || !same(got, want) {
		t.Fatalf("New(%v, %d, %d, %v) = %v, %d, want %v, %d", nodes, batch, high, zones, got, e, want, wantError)
	}
	if e == api.OK && (Check(got) != api.OK || Frames(got) != start) {
		t.Fatalf("New(%v, %d, %d, %v) = %v, which is not valid", nodes, batch, high, zones, got)
	}
}

// P17.3: the zones in their order, the batches of a refill, and the lists of other processors.
func TestRefill(t *testing.T) {
	specs := []api.ZoneSpec{{Node: 0, Kind: api.ZoneNormal, Count: 4}}
	a, _ := New([]int{0, 0, 0}, 3, 3, specs)
	take := func(cpu, want int, lists ...[]int) {
		t.Helper()
		out, frame, e := Alloc(a, cpu, false, false)
		got := [][]int{out.Caches[0].Lists[0], out.Caches[1].Lists[0], out.Caches[2].Lists[0]}
		if e != api.OK || frame != want || !slices.EqualFunc(got, lists, slices.Equal[[]int]) {
			t.Fatalf("Alloc(%v, %d) = %d, %d, %v, want %d, %v", a, cpu, frame, e, got, want, lists)
		}
		a = out
	}
	take(1, 0, nil, []int{2, 1}, nil)
	take(0, 3, nil, []int{2, 1}, nil)
	// Nothing is left in the zone: the frames of the processor 1 are drained.
	take(2, 1, nil, nil, []int{2})
	a, _ = Free(a, 1, 3)
	a, _ = Free(a, 1, 0)
	take(2, 2, nil, []int{3, 0}, nil)
	a, _ = Free(a, 2, 2)
	take(0, 0, []int{3, 2}, nil, nil)
	take(1, 2, nil, []int{3}, nil)
	take(1, 3, nil, nil, nil)
	if _, frame, e := Alloc(a, 0, false, true); frame != 0 || e != api.ErrMemory {
		t.Errorf("Alloc of nothing = %d, %d", frame, e)
	}
}

// P17.4: a zone that has room but no such block is drained, and stays so.
func TestBlockDrains(t *testing.T) {
	a := sample()
	a.Zones[0].Free, a.Zones[0].Min = [5][]int{{8}, {6}, {0}}, 0
	a.Zones[1].Free, a.Zones[1].Min = [5][]int{{14}, {24}, {16}}, 0
	a.Caches[0].Lists[0], a.Caches[2].Lists[0] = []int{5, 9}, []int{4}
	// The nearest to the processor 0 is zone 1. Of zone 0 the caches have what its block is missing.
	out, frame, e := AllocBlock(a, 0, 3)
	want := deepCopy(a)
	want.Zones[0].Free = [5][]int{1: {8}}
	want.Zones[1].Free = [5][]int{{11, 12, 14, 27}, {24}, {16}}
	want.Caches = []api.CpuCache{{Lists: [][]int{{}, {}, {28}}}, {Lists: [][]int{{}, {}, {}}}, {Lists: [][]int{{}, {}, {31, 29}}}}
	if frame != 0 || e != api.OK || !same(out, want) {
		t.Errorf("the second zone: %v, %d, %d, want %v", out, frame, e, want)
	}
	// With its minimum zone 1 is passed over, and keeps its frames in the caches.
	a.Zones[1].Min, want.Zones[1] = 3, a.Zones[1]
	want.Zones[1].Min = 3
	want.Caches[1].Lists[1], want.Caches[2].Lists[1] = []int{12, 11}, []int{27}
	if out, frame, e = AllocBlock(a, 0, 3); frame != 0 || e != api.OK || !same(out, want) {
		t.Errorf("the first zone that has room: %v, %d, %d, want %v", out, frame, e, want)
	}
	a.Zones[0].Min = 3
	if out, frame, e = AllocBlock(a, 0, 3); frame != 0 || e != api.ErrMemory || !same(out, api.Allocator{}) {
		t.Errorf("no zone that has room: %v, %d, %d", out, frame, e)
	}
}

// mark is what the tests put behind the lists of an argument.
const mark = 9999

// withMarks returns a copy with spare capacity behind its lists.
func withMarks(a api.Allocator) api.Allocator {
	a = deepCopy(a)
	a.Nodes = append(a.Nodes, mark)[:len(a.Nodes)]
	a.Zones = append(a.Zones, api.Zone{Node: mark})[:len(a.Zones)]
	for zone := range a.Zones {
		for order, l := range a.Zones[zone].Free {
			a.Zones[zone].Free[order] = append(l, mark)[:len(l)]
		}
	}
	a.Caches = append(a.Caches, api.CpuCache{Lists: [][]int{{mark}}})[:len(a.Caches)]
	for _, c := range a.Caches {
		for zone, l := range c.Lists {
			c.Lists[zone] = append(l, mark)[:len(l)]
		}
	}
	for cpu, c := range a.Caches {
		a.Caches[cpu].Lists = append(c.Lists, []int{mark})[:len(c.Lists)]
	}
	return a
}

func isMarked(l []int) bool { return l[:len(l)+1][len(l)] == mark }

// areMarked reports whether a is equal to want, with the marks in their places.
func areMarked(a, want api.Allocator) bool {
	zones, caches := a.Zones[:len(a.Zones)+1], a.Caches[:len(a.Caches)+1]
	out := isMarked(a.Nodes) && zones[len(a.Zones)].Node == mark && slices.Equal(caches[len(a.Caches)].Lists[0], []int{mark})
	for _, z := range a.Zones {
		for _, l := range z.Free {
			out = out && isMarked(l)
		}
	}
	for _, c := range a.Caches {
		out = out && slices.Equal(c.Lists[:len(c.Lists)+1][len(c.Lists)], []int{mark})
		for _, l := range c.Lists {
			out = out && isMarked(l)
		}
	}
	return out && same(a, want)
}

// listsOf returns all lists of numbers in a.
func listsOf(a *api.Allocator) []*[]int {
	out := []*[]int{&a.Nodes}
	for zone := range a.Zones {
		for order := range a.Zones[zone].Free {
			out = append(out, &a.Zones[zone].Free[order])
		}
	}
	for _, c := range a.Caches {
		for zone := range c.Lists {
			out = append(out, &c.Lists[zone])
		}
	}
	return out
}

// overwrite changes everything in a list, and behind it.
func overwrite(l []int) {
	l = l[:cap(l)]
	for i := range l {
		l[i] = 7
	}
}

// overwriteLists changes all elements of a list of lists, and behind it.
func overwriteLists(lists [][]int) {
	lists = lists[:cap(lists)]
	for i := range lists {
		lists[i] = []int{7}
	}
}

// overwriteAll changes everything in a, and behind its lists.
func overwriteAll(a api.Allocator) {
	for _, l := range listsOf(&a) {
		overwrite(*l)
	}
	for _, c := range a.Caches {
		overwriteLists(c.Lists)
	}
	zones, caches := a.Zones[:cap(a.Zones)], a.Caches[:cap(a.Caches)]
	for i := range zones {
		zones[i] = api.Zone{Node: 7}
	}
	for i := range caches {
		caches[i] = api.CpuCache{}
	}
}

// changes are calls for the sample that have results of all kinds.
func changes() []action {
	out := actionsFor([]int{0, 1, 2, 3}, []int{1, 4, 11, 15, 28, 30, 32}, []int{0, 1, 3, 4})
	return append(out, action{"Drain", func(a api.Allocator) outcome { return outcome{a: Drain(a)} }, nil})
}

// Rule 'Values'.
func TestArgumentsStay(t *testing.T) {
	full, invalid := sample(), sample()
	full.High = 2
	full.Caches[0].Lists[0], full.Caches[1].Lists[0] = []int{4, 2}, []int{9, 5}
	invalid.Caches[1].Lists[1] = []int{12, 16}
	for _, a := range []api.Allocator{sample(), full, invalid} {
		for _, act := range changes() {
			argument := withMarks(a)
			got := act.do(argument)
			if !areMarked(argument, a) {
				t.Fatalf("%s: the argument has changed", act.what)
			}
			want := outcome{deepCopy(got.a), got.frame, got.e}
			overwriteAll(argument)
			if !got.same(want) {
				t.Fatalf("%s: the result changes with the argument", act.what)
			}
			argument = withMarks(a)
			overwriteAll(act.do(argument).a)
			if !areMarked(argument, a) {
				t.Fatalf("%s: the argument changes with the result", act.what)
			}
		}
		argument := withMarks(a)
		Check(argument)
		Headroom(argument)
		IsFree(argument, 11)
		Zone(argument, 11)
		Count(argument, 1)
		Frames(argument)
		if !areMarked(argument, a) {
			t.Fatal("a function that looks at an allocator has changed it")
		}
	}
}

// Rule 'Values': the nodes and zones of New.
func TestSpecsStay(t *testing.T) {
	nodes := []int{2, 1, mark}
	zones := []api.ZoneSpec{{Count: 7}, {Node: 1, Kind: 1, Count: 20, Min: 3}, {Node: mark}}
	wantNodes, wantZones := slices.Clone(nodes), slices.Clone(zones)
	got, e := New(nodes[:2], 1, 2, zones[:2])
	want := deepCopy(got)
	if e != api.OK || !slices.Equal(nodes, wantNodes) || !slices.Equal(zones, wantZones) {
		t.Fatalf("New has changed its arguments to %v and %v: %d", nodes, zones, e)
	}
	overwrite(nodes)
	clear(zones)
	if !same(got, want) {
		t.Error("the result of New changes with its arguments")
	}
	nodes = slices.Clone(wantNodes)
	got, _ = New(nodes[:2], 1, 2, wantZones[:2])
	overwriteAll(got)
	if !slices.Equal(nodes, wantNodes) {
		t.Error("the arguments of New change with its result")
	}
}

// Rule 'Values': what is appended to a list of a result is in no other list of it.
func TestListsAreApart(t *testing.T) {
	fresh := func(api.Allocator) outcome {
		a, e := New([]int{0, 1, 2}, 1, 2, []api.ZoneSpec{{Count: 7}, {Count: 7}, {Count: 7}})
		return outcome{a: a, e: e}
	}
	for _, act := range append(changes(), action{"New", fresh, nil}) {
		got := act.do(sample()).a
		want := deepCopy(got)
		right := listsOf(&want)
		for i, l := range listsOf(&got) {
			overwrite(*l)
			*l = slices.Clone(*right[i])
			if !same(got, want) {
				t.Fatalf("%s: lists of the result share memory", act.what)
			}
		}
		for cpu := range got.Caches {
			overwriteLists(got.Caches[cpu].Lists)
			got.Caches[cpu] = deepCopy(want).Caches[cpu]
			if !same(got, want) {
				t.Fatalf("%s: caches of the result share memory", act.what)
			}
		}
	}
}

// exampleMachine is the allocator of the chapter's examples.
func exampleMachine() api.Allocator {
	a, _ := New([]int{0, 1}, 2, 3, []api.ZoneSpec{{Node: 0, Kind: api.ZoneNormal, Count: 8, Min: 2}, {Node: 1, Kind: api.ZoneMovable, Count: 8}})
	return a
}

// The examples of the chapter.
func TestExamples(t *testing.T) {
	a := exampleMachine()
	if normal, all := Headroom(a); normal != 6 || all != 14 {
		t.Errorf("Headroom = %d, %d", normal, all)
	}
	out, frame, e := Alloc(a, 0, true, false)
	if frame != 0 || e != api.OK || !slices.Equal(out.Caches[0].Lists[0], []int{1}) {
		t.Errorf("Alloc for the kernel = %v, %d, %d", out, frame, e)
	}
	if _, frame, e = Alloc(a, 0, false, false); frame != 0 || e != api.OK {
		t.Errorf("Alloc for a user = %d, %d", frame, e)
	}
	for i := range 6 {
		if out, frame, e = Alloc(a, i%2, true, false); e != api.OK {
			t.Fatalf("Alloc number %d for the kernel = %d, %d", i, frame, e)
		}
		a = out
	}
	if _, frame, e = Alloc(a, 0, true, false); frame != 0 || e != api.ErrMemory {
		t.Errorf("the seventh Alloc for the kernel = %d, %d", frame, e)
	}
	if _, frame, e = Alloc(a, 0, true, true); e != api.OK {
		t.Errorf("Alloc with reserve = %d, %d", frame, e)
	}
	a = exampleMachine()
	if a, _, e = Alloc(a, 0, true, false); e != api.OK {
		t.Errorf("Alloc of one frame has the error %d", e)
	}
	if a, frame, e = AllocBlock(a, 1, 3); frame != 8 || e != api.OK {
		t.Errorf("AllocBlock = %d, %d", frame, e)
	}
	if _, frame, e = AllocBlock(a, 1, 3); frame != 0 || e != api.ErrMemory {
		t.Errorf("the second AllocBlock = %d, %d", frame, e)
	}
}

// P17.1: the result is the error of the first part that has one, also in random allocators.
func TestRandomAllocators(t *testing.T) {
	random := rand.New(rand.NewSource(4))
	seen := map[int]int{}
	for range 20000 {
		a := sample()
		for range 1 + random.Intn(3) {
			l := listsOf(&a)[random.Intn(len(listsOf(&a)))]
			*l = append(slices.Clone(*l), random.Intn(33))
		}
		if n := random.Intn(12); n < 3 {
			a.Zones[n].Start += random.Intn(3) - 1
			a.Zones[n].Free = [5][]int{}
		}
		e := Check(a)
		if e != checked(a) {
			t.Fatalf("Check(%v) = %d, want %d", a, e, checked(a))
		}
		seen[e]++
	}
	for _, e := range []int{api.OK, api.ErrRange, api.ErrForm, api.ErrOrder, api.ErrExist, api.ErrState, api.ErrLimit} {
		if seen[e] < 50 {
			t.Errorf("the result %d occurred %d times", e, seen[e])
		}
	}
}
