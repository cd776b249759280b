package watermark

import (
	"math"
	"math/rand"
	"slices"
	"testing"

	"estovers/api"
	"estovers/buddy"
)

// limits are the limits of int and of the machine, and the numbers beside them.
func limits() []int {
	return []int{math.MinInt, math.MinInt + 1, -1 << 32, -2, -1, 0, 1, 2, 3, 4094, 4095, 4096, 4097, 1 << 32, math.MaxInt - 4, math.MaxInt - 1, math.MaxInt}
}

// orders are all orders, and numbers that are none.
func orders() []int {
	return []int{math.MinInt, -64, -1, 0, 1, 2, 3, 4, 5, 63, 64, 1 << 32, math.MaxInt}
}

// contexts are all contexts, and numbers that are none.
func contexts() []int {
	return []int{math.MinInt, -1, api.ContextNormal, api.ContextAtomic, api.ContextReclaim, 3, math.MaxInt}
}

// marksOf are watermarks with these numbers, in all combinations.
func marksOf(numbers []int) []api.Marks {
	var out []api.Marks
	for _, least := range numbers {
		for _, low := range numbers {
			for _, high := range numbers {
				out = append(out, api.Marks{Min: least, Low: low, High: high})
			}
		}
	}
	return out
}

// marksFrom returns valid watermarks with a minimum.
func marksFrom(least int) api.Marks { return api.Marks{Min: least, Low: least, High: least} }

// P15.1
func TestCheck(t *testing.T) {
	for _, m := range append(marksOf(limits()), marksOf([]int{0, 5, 6, 7, 8})...) {
		expectCheck(t, m)
	}
	for _, c := range []struct {
		m    api.Marks
		want int
	}{
		{api.Marks{}, api.OK},
		{api.Marks{Min: 6, Low: 8, High: 9}, api.OK},
		{api.Marks{Min: 6, Low: 6, High: 6}, api.OK},
		{api.Marks{Min: 4096, Low: 4096, High: 4096}, api.OK},
		{api.Marks{Min: 7, Low: 6, High: 9}, api.ErrOrder},
		{api.Marks{Min: 6, Low: 9, High: 8}, api.ErrOrder},
		{api.Marks{Min: -1, Low: 8, High: 9}, api.ErrRange},
		{api.Marks{Min: 6, Low: 4097, High: 9}, api.ErrRange},
		{api.Marks{Min: 6, Low: -1, High: 9}, api.ErrRange},
		{api.Marks{Min: 9, Low: 8, High: 4097}, api.ErrRange},
	} {
		if e := Check(c.m); e != c.want {
			t.Errorf("Check(%v) = %d, want %d", c.m, e, c.want)
		}
	}
}

// P15.2, and the first consequence in P15.7.
func TestLevels(t *testing.T) {
	for _, count := range append(limits(), 5, 7, 64, 100) {
		for _, least := range limits() {
			expectLevels(t, count, least)
		}
		for _, least := range []int{count - 2, count - 1, count, count + 1} {
			expectLevels(t, count, least)
		}
	}
	for count := range 80 {
		for least := -2; least <= count+2; least++ {
			expectLevels(t, count, least)
		}
	}
	for least := range 4098 {
		expectLevels(t, 4096, least)
	}
}

// P15.3
func TestFloor(t *testing.T) {
	for _, context := range contexts() {
		for _, m := range append(marksOf(limits()), marksOf([]int{5, 6, 7, 8, 9})...) {
			expectFloor(t, m, context)
		}
	}
	m := api.Marks{Min: 7, Low: 9, High: 11}
	for context, want := range []int{7, 3, 0, -1} {
		if got := Floor(m, context); got != want {
			t.Errorf("Floor(%v, %d) = %d, want %d", m, context, got, want)
		}
	}
}

// smallLists are all lists with numbers below a limit for the orders from 0 on, of which there are at most some.
func smallLists(limit, length int) [][]int {
	out := [][]int{nil}
	for from := 0; len(out[from]) < length; from++ {
		for n := range limit {
			out = append(out, append(slices.Clone(out[from]), n))
		}
	}
	return out
}

// P15.4: all short lists, with every order, context and minimum that matters.
func TestAllowed(t *testing.T) {
	for _, free := range smallLists(3, 5) {
		for least := range 66 {
			for order := -1; order <= 5; order++ {
				for context := -1; context <= 3; context++ {
					expectAllowed(t, free, marksFrom(least), order, context)
				}
			}
		}
	}
}

// P15.4: many small blocks, and arguments beside the limits.
func TestAllowedAtLimits(t *testing.T) {
	lists := smallLists(2, 5)
	for _, n := range limits() {
		for order := range 5 {
			free := make([]int, 5)
			free[order] = n
			lists = append(lists, free, free[:order+1], slices.Repeat([]int{n}, order+1))
		}
	}
	for _, free := range lists {
		for _, order := range orders() {
			for _, context := range contexts() {
				for _, least := range limits() {
					expectAllowed(t, free, marksFrom(least), order, context)
				}
			}
		}
	}
}

// P15.4: at which minimum a permission ends.
func TestAllowedEndsAtFloor(t *testing.T) {
	random := rand.New(rand.NewSource(1))
	for range 3000 {
		free := make([]int, 5)
		for order := range free {
			free[order] = random.Intn(1 + random.Intn(1+[]int{4096, 30, 3}[random.Intn(3)]))
		}
		total := totalOf(free)
		for order := range 5 {
			tight := min(total-1<<order, 4096)
			for o := 1; o <= order; o++ {
				above := totalOf(append(make([]int, o), free[o:]...)) - 1<<order
				tight = min(tight, 1<<o*(above+1)-1)
			}
			for least := max(tight-2, 0); least <= min(tight+2, 4096); least++ {
				expectAllowed(t, free, marksFrom(least), order, api.ContextNormal)
				if got := Allowed(free, marksFrom(least), order, api.ContextNormal); got != (least <= tight) {
					t.Fatalf("Allowed(%v, %d, %d) = %t, but it ends at %d", free, least, order, got, tight)
				}
				expectAllowed(t, free, marksFrom(min(2*least, 4096)), order, api.ContextAtomic)
			}
		}
	}
}

// P15.4: which lists are valid.
func TestAllowedLists(t *testing.T) {
	m := api.Marks{Min: 6, Low: 8, High: 9}
	for _, c := range []struct {
		what string
		free []int
		want bool
	}{
		{"as many as there may be", []int{4096, 4096, 4096, 4096, 4096}, true},
		{"one more of order 0", []int{4097, 4096, 4096, 4096, 4096}, false},
		{"one more of order 4", []int{4096, 4096, 4096, 4096, 4097}, false},
		{"less than none of order 0", []int{-1, 9, 9, 9, 9}, false},
		{"less than none of order 4", []int{9, 9, 9, 9, -1}, false},
		{"far too many", []int{math.MaxInt, 0, 0, 0, math.MaxInt}, false},
		{"an order that does not exist, with too many", []int{7, 0, 0, 0, 0, math.MaxInt}, true},
		{"an order that does not exist, with less than none", []int{7, 0, 0, 0, 0, -1}, true},
		{"an order that does not exist", []int{6, 0, 0, 0, 0, 9}, false},
		{"very many orders", append([]int{7, 0, 0, 0, 0}, slices.Repeat([]int{-1}, 1<<20)...), true},
		{"one order", []int{7}, true},
		{"two orders", []int{5, 1}, true},
		{"no order", nil, false},
	} {
		if got := Allowed(c.free, m, 0, api.ContextNormal); got != c.want {
			t.Errorf("%s: %t", c.what, got)
		}
	}
	if !Allowed([]int{0, 0, 0, 0, 1, 9}, api.Marks{}, 4, api.ContextNormal) || Allowed([]int{99, 99, 99, 99, 0, 9}, api.Marks{}, 4, api.ContextReclaim) {
		t.Error("blocks of an order that does not exist matter")
	}
}

// P15.4: the watermarks and the context have to be valid; of the watermarks only Min matters otherwise.
func TestAllowedMarks(t *testing.T) {
	free := []int{4000, 4000, 4000, 4000, 4000}
	for _, m := range append(marksOf(limits()), marksOf([]int{0, 7, 8, 200})...) {
		for _, context := range contexts() {
			expectAllowed(t, free, m, 3, context)
		}
		if Check(m) == api.OK && Allowed([]int{9, 1}, m, 1, api.ContextNormal) != Allowed([]int{9, 1}, marksFrom(m.Min), 1, api.ContextNormal) {
			t.Errorf("Low or High of %v matter", m)
		}
	}
}

// P15.5
func TestWake(t *testing.T) {
	for _, m := range append(marksOf(limits()), marksOf([]int{0, 6, 7, 8, 9})...) {
		for _, free := range append(limits(), 6, 7, 8, 9, 10, m.Low-1, m.Low, m.High-1, m.High) {
			expectWake(t, m, free, false)
			expectWake(t, m, free, true)
		}
	}
	m := api.Marks{Min: 6, Low: 8, High: 10}
	for _, c := range []struct {
		free          int
		stays, starts bool
	}{{math.MinInt, true, true}, {-1, true, true}, {0, true, true}, {7, true, true}, {8, true, false}, {9, true, false}, {10, false, false}, {11, false, false}, {math.MaxInt, false, false}} {
		if got := Wake(m, c.free, true); got != c.stays {
			t.Errorf("Wake(%d, true) = %t", c.free, got)
		}
		if got := Wake(m, c.free, false); got != c.starts {
			t.Errorf("Wake(%d, false) = %t", c.free, got)
		}
	}
}

// sample returns a zone of the frames 5 to 52 with free blocks of all orders, of each another number.
func sample() api.Zone {
	return api.Zone{Node: 2, Kind: api.ZoneMovable, Start: 5, Count: 48, Min: 7, Free: [5][]int{{5, 9, 10, 12, 14}, {6, 32, 50}, {36, 44}, {}, {16}}}
}

// P15.6: Blocks, of zones with each error and without.
func TestBlocks(t *testing.T) {
	if got, e := Blocks(sample()); e != api.OK || !slices.Equal(got, []int{5, 3, 2, 0, 1}) {
		t.Errorf("Blocks of the sample = %v, %d", got, e)
	}
	for _, c := range []struct {
		what   string
		change func(z *api.Zone)
		want   int
	}{
		{"node 4", func(z *api.Zone) { z.Node = 4 }, api.ErrRange},
		{"kind 2", func(z *api.Zone) { z.Kind = 2 }, api.ErrRange},
		{"the greatest start", func(z *api.Zone) { z.Start = math.MaxInt }, api.ErrRange},
		{"count 0", func(z *api.Zone) { z.Count = 0 }, api.ErrRange},
		{"min above count", func(z *api.Zone) { z.Min = 49 }, api.ErrRange},
		{"a frame before the zone", func(z *api.Zone) { z.Free[0] = []int{4} }, api.ErrForm},
		{"descending", func(z *api.Zone) { z.Free[2] = []int{44, 36} }, api.ErrOrder},
		{"a frame in two blocks", func(z *api.Zone) { z.Free[0] = []int{16} }, api.ErrExist},
		{"buddies", func(z *api.Zone) { z.Free[0] = []int{14, 15} }, api.ErrState},
		{"nothing is free", func(z *api.Zone) { z.Free = [5][]int{} }, api.OK},
	} {
		z := sample()
		c.change(&z)
		expectBlocks(t, z)
		if got, e := Blocks(z); e != c.want || e == api.OK && len(got) != api.MaxOrder+1 || e != api.OK && got != nil {
			t.Errorf("%s: Blocks = %v, %d, want %d", c.what, got, e, c.want)
		}
	}
	expectBlocks(t, api.Zone{})
}

// P15.6: Blocks says of a zone what layer 12 does.
func TestBlocksOfRandomZones(t *testing.T) {
	random := rand.New(rand.NewSource(2))
	for range 300 {
		count := 1 + random.Intn(256)
		z, _ := buddy.New(1, api.ZoneNormal, random.Intn(257-count), count, 0)
		for range random.Intn(60) {
			if next, _, e := buddy.Alloc(z, random.Intn(5)); e == api.OK {
				z = next
			}
			if next, e := buddy.Take(z, z.Start+random.Intn(count)); e == api.OK {
				z = next
			}
		}
		expectBlocks(t, z)
		free, _ := Blocks(z)
		if totalOf(free) != buddy.Count(z) {
			t.Fatalf("Blocks(%v) = %v", z, free)
		}
		for order := range 5 {
			_, _, e := buddy.Alloc(z, order)
			if Allowed(free, api.Marks{}, order, api.ContextReclaim) != (e == api.OK) {
				t.Fatalf("without a minimum a block of the order %d of %v is allowed or not, against layer 12", order, z)
			}
		}
	}
}

// zonesOf returns zones with the kinds 0, 1, 0, .. and these minimums.
func zonesOf(minimums ...int) []api.Zone {
	var out []api.Zone
	for i, n := range minimums {
		out = append(out, api.Zone{Kind: i % 2, Min: n})
	}
	return out
}

// P15.6: Reserve.
func TestReserve(t *testing.T) {
	for _, a := range limits() {
		for _, b := range limits() {
			expectReserve(t, zonesOf(a, b))
			expectReserve(t, zonesOf(1, 2, 3, 4, a, b))
			expectReserve(t, zonesOf(1, 2, 3, 4, 5, a, b))
		}
		expectReserve(t, []api.Zone{{Kind: a, Min: 3}, {Kind: api.ZoneNormal, Min: 5}})
	}
	for _, c := range []struct {
		what              string
		zones             []api.Zone
		normal, all, want int
	}{
		{"no zones", nil, 0, 0, api.OK},
		{"a normal zone", zonesOf(3), 3, 3, api.OK},
		{"a movable zone", zonesOf(0, 3), 0, 3, api.OK},
		{"six zones", zonesOf(4096, 4096, 4096, 4096, 4096, 4096), 3 * 4096, 6 * 4096, api.OK},
		{"six different zones", zonesOf(1, 2, 4, 8, 16, 32), 21, 63, api.OK},
		{"seven zones", zonesOf(0, 0, 0, 0, 0, 0, 0), 0, 0, api.ErrRange},
		{"very many zones", make([]api.Zone, 1<<16), 0, 0, api.ErrRange},
		{"a minimum that is negative", zonesOf(5, 6, -1), 0, 0, api.ErrRange},
		{"a minimum that is too great", zonesOf(5, 4097), 0, 0, api.ErrRange},
		{"a zone that is not valid but for its minimum", []api.Zone{{Node: -1, Kind: 7, Start: -1, Min: 9, Free: [5][]int{{-1, -1}}}}, 0, 9, api.OK},
	} {
		normal, all, e := Reserve(c.zones)
		if normal != c.normal || all != c.all || e != c.want {
			t.Errorf("%s: %d, %d, %d, want %d, %d, %d", c.what, normal, all, e, c.normal, c.all, c.want)
		}
	}
}

// P15.7: contexts, what is left, and one more free block.
func TestConsequences(t *testing.T) {
	allowed := 0
	for _, free := range smallLists(3, 5) {
		for least := range 40 {
			m := marksFrom(least)
			for order := range 5 {
				for context := range 3 {
					if !Allowed(free, m, order, context) {
						continue
					}
					allowed++
					if context < api.ContextReclaim && !Allowed(free, m, order, context+1) {
						t.Fatalf("Allowed(%v, %v, %d, %d), but not in the next context", free, m, order, context)
					}
					if totalOf(free)-1<<order < Floor(m, context) {
						t.Fatalf("Allowed(%v, %v, %d, %d) leaves too few frames", free, m, order, context)
					}
					for more := range 5 {
						greater := append(slices.Clone(free), make([]int, 5-len(free))...)
						greater[more]++
						if !Allowed(greater, m, order, context) {
							t.Fatalf("Allowed(%v, %v, %d, %d), but not %v", free, m, order, context, greater)
						}
					}
				}
			}
		}
	}
	if allowed < 1000 {
		t.Errorf("only %d permissions", allowed)
	}
}

// P15.7: if Wake starts, reclaim runs until free has reached High.
func TestWakeRuns(t *testing.T) {
	for count := range 60 {
		for least := range count + 1 {
			m, _ := Levels(count, least)
			for free := range count + 1 {
				running := Wake(m, free, false)
				if running != (free < m.Low) {
					t.Fatalf("Wake(%v, %d, false) = %t", m, free, running)
				}
				for now := free; running; now++ {
					running = Wake(m, now, true)
					if running != (now < m.High) {
						t.Fatalf("Wake(%v, %d, true) = %t", m, now, running)
					}
				}
			}
		}
	}
}

// Rule 'Values'.
func TestArgumentsStay(t *testing.T) {
	free := []int{7, 1, 2, 3, 1, 99, 98}
	for length := range 7 {
		for order := range 5 {
			Allowed(free[:length], marksFrom(3), order, api.ContextNormal)
		}
	}
	if !slices.Equal(free, []int{7, 1, 2, 3, 1, 99, 98}) {
		t.Error("Allowed has changed its argument")
	}
	z := sample()
	got, _ := Blocks(z)
	for i := range got[:cap(got)] {
		got[:cap(got)][i] = -7
	}
	zones := []api.Zone{z, {Min: 4}, {Min: 99}}
	Reserve(zones[:2])
	if zones[2].Min != 99 {
		t.Error("Reserve has changed what is behind its argument")
	}
	for order, want := range sample().Free {
		if !slices.Equal(zones[0].Free[order], want) {
			t.Errorf("the list of the order %d has changed", order)
		}
	}
	if again, e := Blocks(z); e != api.OK || !slices.Equal(again, []int{5, 3, 2, 0, 1}) {
		t.Errorf("Blocks again = %v, %d", again, e)
	}
}

// The examples of the chapter.
func TestExamples(t *testing.T) {
	m, e := Levels(64, 6)
	if m != (api.Marks{Min: 6, Low: 8, High: 9}) || e != api.OK {
		t.Errorf("Levels(64, 6) = %v, %d", m, e)
	}
	if four, e := Levels(4, 4); four != (api.Marks{Min: 4, Low: 4, High: 4}) || e != api.OK {
		t.Errorf("Levels(4, 4) = %v, %d", four, e)
	}
	for _, c := range []struct {
		free  []int
		order int
		want  [3]bool
	}{
		{[]int{7}, 0, [3]bool{true, true, true}},
		{[]int{6}, 0, [3]bool{false, true, true}},
		{[]int{0, 0, 0, 1}, 3, [3]bool{false, false, true}},
		{[]int{6, 0, 0, 1}, 3, [3]bool{false, false, true}},
	} {
		for context, want := range c.want {
			if got := Allowed(c.free, m, c.order, context); got != want {
				t.Errorf("Allowed(%v, %v, %d, %d) = %t", c.free, m, c.order, context, got)
			}
		}
	}
	if !Wake(m, 7, false) || !Wake(m, 8, true) || Wake(m, 8, false) || Wake(m, 9, true) {
		t.Error("Wake")
	}
}
