package buddy

import (
	"math"
	"math/rand"
	"slices"
	"testing"

	"estovers/api"
)

// limits are the limits of int and of the machine, and the numbers beside them.
func limits() []int {
	return []int{math.MinInt, math.MinInt + 1, -1 << 32, -16, -1, 0, 1, 15, 16, 254, 255, 256, 257, 1 << 31, 1 << 32, math.MaxInt - 256, math.MaxInt - 15, math.MaxInt - 1, math.MaxInt}
}

// orders are all orders, and numbers that are none.
func orders() []int {
	return []int{math.MinInt, -64, -1, 0, 1, 2, 3, 4, 5, 63, 64, 1 << 32, math.MaxInt}
}

// numbers are the frames of a zone, those beside it, and numbers that are no frames.
func numbers(z api.Zone) []int {
	out := limits()
	if inRange(z) {
		for frame := z.Start - 17; frame <= z.Start+z.Count+17; frame++ {
			out = append(out, frame)
		}
	}
	return out
}

// actions are calls with many arguments for a zone.
func actions(z api.Zone) []action {
	var out []action
	for _, order := range orders() {
		out = append(out, allocAction(order))
	}
	for _, frame := range numbers(z) {
		out = append(out, takeAction(frame))
		for _, order := range orders() {
			out = append(out, freeAction(frame, order))
		}
	}
	return out
}

// P12.2
func TestNew(t *testing.T) {
	kinds := []int{math.MinInt, -1, api.ZoneNormal, api.ZoneMovable, 2, math.MaxInt}
	nodes := []int{math.MinInt, -1, 0, 1, 2, 3, 4, math.MaxInt}
	for _, start := range limits() {
		for _, count := range limits() {
			for _, least := range []int{math.MinInt, -1, 0, 1, count - 1, count, count + 1, math.MaxInt} {
				for _, kind := range kinds {
					expectNew(t, 3, kind, start, count, least)
				}
				for _, node := range nodes {
					expectNew(t, node, api.ZoneNormal, start, count, least)
				}
			}
		}
	}
	for start := range 256 {
		for count := 1; start+count <= 256; count += 1 + start%7 {
			expectNew(t, 0, api.ZoneMovable, start, count, 0)
		}
	}
}

func expectNew(t *testing.T, node, kind, start, count, least int) {
	t.Helper()
	got, e := New(node, kind, start, count, least)
	want, wantError := api.Zone{Node: node, Kind: kind, Start: start, Count: count, Min: least}, api.OK
	if inRange(want) {
		set := frameSet{}
		for i := range count {
			set[start+i] = true
		}
		want = canonical(want, set)
	} else {
		want, wantError = api.Zone{}, api.ErrRange
	}
	if e != wantError || !same(got, want) {
		t.Fatalf("New(%d, %d, %d, %d, %d) = %v, %d, want %v, %d", node, kind, start, count, least, got, e, want, wantError)
	}
	if e == api.OK && Check(got) != api.OK {
		t.Fatalf("New(%d, %d, %d, %d, %d) = %v, which is not valid", node, kind, start, count, least, got)
	}
}

// sample returns a zone of the frames 5 to 52 with free blocks of all orders: 6, 7, 14, 16 to 31, 36 to 39, 40 to 47, 50, 51, and 52.
func sample() api.Zone {
	return api.Zone{Node: 2, Kind: api.ZoneMovable, Start: 5, Count: 48, Min: 7, Free: [5][]int{{14, 52}, {6, 50}, {36}, {40}, {16}}}
}

type fault struct {
	what   string
	change func(z *api.Zone)
	want   int
}

// faults are changes of the sample, with the results of Check.
func faults() []fault {
	return []fault{
		{"nothing", func(z *api.Zone) {}, api.OK},
		{"node -1", func(z *api.Zone) { z.Node = -1 }, api.ErrRange},
		{"node 4", func(z *api.Zone) { z.Node = 4 }, api.ErrRange},
		{"node 3", func(z *api.Zone) { z.Node = 3 }, api.OK},
		{"kind 2", func(z *api.Zone) { z.Kind = 2 }, api.ErrRange},
		{"kind -1", func(z *api.Zone) { z.Kind = -1 }, api.ErrRange},
		{"start -1", func(z *api.Zone) { z.Start = -1 }, api.ErrRange},
		{"the greatest start", func(z *api.Zone) { z.Start = math.MaxInt }, api.ErrRange},
		{"start 209", func(z *api.Zone) { z.Start = 209 }, api.ErrRange},
		{"start 208", func(z *api.Zone) { z.Start = 208 }, api.ErrForm},
		{"count 0", func(z *api.Zone) { z.Count, z.Min = 0, 0 }, api.ErrRange},
		{"count -1", func(z *api.Zone) { z.Count = -1 }, api.ErrRange},
		{"count 252", func(z *api.Zone) { z.Count = 252 }, api.ErrRange},
		{"count 251", func(z *api.Zone) { z.Count = 251 }, api.OK},
		{"the greatest count", func(z *api.Zone) { z.Count = math.MaxInt }, api.ErrRange},
		{"the least count", func(z *api.Zone) { z.Count = math.MinInt }, api.ErrRange},
		{"min -1", func(z *api.Zone) { z.Min = -1 }, api.ErrRange},
		{"min above count", func(z *api.Zone) { z.Min = 49 }, api.ErrRange},
		{"min is count", func(z *api.Zone) { z.Min = 48 }, api.OK},
		{"a frame before the zone", func(z *api.Zone) { z.Free[0] = []int{4, 14} }, api.ErrForm},
		{"a frame behind the zone", func(z *api.Zone) { z.Free[0] = []int{14, 53} }, api.ErrForm},
		{"a negative frame", func(z *api.Zone) { z.Free[0] = []int{math.MinInt} }, api.ErrForm},
		{"a frame that is too great", func(z *api.Zone) { z.Free[4] = []int{16, math.MaxInt - 15} }, api.ErrForm},
		{"a block that begins before the zone", func(z *api.Zone) { z.Free[1] = []int{4} }, api.ErrForm},
		{"a block that ends behind the zone", func(z *api.Zone) { z.Free[0], z.Free[1] = nil, []int{52} }, api.ErrForm},
		{"a block of order 4 that ends behind the zone", func(z *api.Zone) { z.Free = [5][]int{4: {48}} }, api.ErrForm},
		{"a block in a wrong place", func(z *api.Zone) { z.Free[2] = []int{34} }, api.ErrForm},
		{"an odd block", func(z *api.Zone) { z.Free[1] = []int{7} }, api.ErrForm},
		{"descending", func(z *api.Zone) { z.Free[0] = []int{52, 14} }, api.ErrOrder},
		{"twice in a list", func(z *api.Zone) { z.Free[4] = []int{16, 16} }, api.ErrOrder},
		{"descending, then no block", func(z *api.Zone) { z.Free[0], z.Free[2] = []int{52, 14}, []int{1} }, api.ErrOrder},
		{"no block, then descending", func(z *api.Zone) { z.Free[0], z.Free[1] = []int{4}, []int{50, 6} }, api.ErrForm},
		{"no block, and descending", func(z *api.Zone) { z.Free[1] = []int{6, 5} }, api.ErrForm},
		{"a frame in two blocks", func(z *api.Zone) { z.Free[0] = []int{7, 14, 52} }, api.ErrExist},
		{"a frame in the greatest block", func(z *api.Zone) { z.Free[0] = []int{14, 31, 52} }, api.ErrExist},
		{"a block in two lists", func(z *api.Zone) { z.Free[2] = []int{36, 40} }, api.ErrExist},
		{"in two blocks, then descending", func(z *api.Zone) { z.Free[0], z.Free[1] = []int{7}, []int{50, 6} }, api.ErrOrder},
		{"two frames", func(z *api.Zone) { z.Free[0] = []int{14, 15, 52} }, api.ErrState},
		{"two frames that are no buddies", func(z *api.Zone) { z.Free[0] = []int{13, 14, 52} }, api.OK},
		{"two blocks of order 1", func(z *api.Zone) { z.Free[1] = []int{6, 48, 50} }, api.ErrState},
		{"two blocks of order 2", func(z *api.Zone) { z.Free[2] = []int{32, 36} }, api.ErrState},
		{"two blocks of order 3", func(z *api.Zone) { z.Free[3], z.Free[2] = []int{32, 40}, nil }, api.ErrState},
		{"two blocks of order 4", func(z *api.Zone) { z.Free = [5][]int{4: {16, 32}} }, api.OK},
		{"buddies, and a frame in two blocks", func(z *api.Zone) { z.Free[0] = []int{14, 15, 16, 52} }, api.ErrExist},
		{"all of it", func(z *api.Zone) { z.Free = [5][]int{{5, 52}, {6, 50}, {48}, {8, 32}, {16}} }, api.ErrExist},
		{"nothing is free", func(z *api.Zone) { z.Free = [5][]int{} }, api.OK},
	}
}

// P12.1, with literal errors, and what the other functions say of these zones.
func TestFaults(t *testing.T) {
	for _, f := range faults() {
		z := sample()
		f.change(&z)
		if e := Check(z); e != f.want {
			t.Errorf("%s: Check = %d, want %d", f.what, e, f.want)
		}
		expectLooks(t, z)
		for _, a := range actions(z) {
			expect(t, z, a)
		}
		expectBuild(t, z, []int{5, 6, 7, 9, 11, 52})
	}
}

// P12.1: of two faults the one that Check names first is its result.
func TestPairsOfFaults(t *testing.T) {
	for _, f := range faults() {
		for _, g := range faults() {
			z := sample()
			f.change(&z)
			g.change(&z)
			expectLooks(t, z)
			expect(t, z, allocAction(1))
			expect(t, z, freeAction(12, 1))
			expect(t, z, takeAction(20))
		}
	}
}

// P12.1: all zones with few blocks.
func TestSmallLists(t *testing.T) {
	for _, z := range []api.Zone{{Start: 0, Count: 4}, {Start: 0, Count: 5}, {Start: 1, Count: 4}, {Start: 3, Count: 5}, {Start: 252, Count: 4}} {
		candidates := func(order int) [][]int {
			var out [][]int
			first := z.Start - z.Start%4
			for subset := range 1 << (8 >> order) {
				var l []int
				for i := range 8 >> order {
					if subset>>i&1 == 1 {
						l = append(l, first+i<<order)
					}
				}
				out = append(out, l)
			}
			return out
		}
		for _, z.Free[0] = range candidates(0) {
			for _, z.Free[1] = range candidates(1) {
				for _, z.Free[2] = range candidates(2) {
					for _, z.Free[3] = range candidates(3) {
						e := Check(z)
						if e != checked(z) || (e == api.OK) != isValid(z) {
							t.Fatalf("Check(%v) = %d, want %d", z, e, checked(z))
						}
					}
				}
			}
		}
	}
}

// P12.1: a zone is valid exactly if the result is OK, in random lists.
func TestRandomLists(t *testing.T) {
	random := rand.New(rand.NewSource(1))
	seen := map[int]int{}
	for range 40000 {
		z := api.Zone{Start: random.Intn(20), Count: 1 + random.Intn(40)}
		for order := range z.Free {
			for range random.Intn(3) {
				z.Free[order] = append(z.Free[order], (z.Start+random.Intn(z.Count))>>order<<order)
			}
			if random.Intn(4) > 0 {
				slices.Sort(z.Free[order])
			}
		}
		e := Check(z)
		if e != checked(z) || (e == api.OK) != isValid(z) {
			t.Fatalf("Check(%v) = %d, want %d", z, e, checked(z))
		}
		seen[e]++
	}
	for _, e := range []int{api.OK, api.ErrForm, api.ErrOrder, api.ErrExist, api.ErrState} {
		if seen[e] < 50 {
			t.Errorf("the result %d occurred %d times", e, seen[e])
		}
	}
}

// smallZones are zones of different shapes, with nothing free.
func smallZones() []api.Zone {
	return []api.Zone{
		{Start: 0, Count: 1}, {Start: 1, Count: 1, Min: 1}, {Start: 0, Count: 9, Node: 3}, {Start: 1, Count: 8}, {Start: 3, Count: 6, Kind: api.ZoneMovable},
		{Start: 6, Count: 7}, {Start: 12, Count: 8}, {Start: 14, Count: 9, Min: 4}, {Start: 247, Count: 9}, {Start: 250, Count: 6},
	}
}

// subset returns the frames of a zone with the number of a subset.
func subset(z api.Zone, number int) frameSet {
	set := frameSet{}
	for i := range z.Count {
		if number>>i&1 == 1 {
			set[z.Start+i] = true
		}
	}
	return set
}

// P12.3 to P12.8: all sets of free frames of small zones.
func TestAllSets(t *testing.T) {
	for _, z := range smallZones() {
		all := actions(z)
		for number := range 1 << z.Count {
			set := subset(z, number)
			expectBuild(t, z, ascending(set))
			expectBuild(t, sample(), ascending(set))
			one := canonical(z, set)
			expectLooks(t, one)
			// Each action comes with many sets, not with all.
			for i := number % 3; i < len(all); i += 3 {
				expect(t, one, all[i])
			}
		}
	}
}

// P12.8: Alloc succeeds exactly if a block in the zone has only free frames.
func TestAllocSucceeds(t *testing.T) {
	for _, z := range []api.Zone{{Start: 2, Count: 13}, {Start: 8, Count: 12}, {Start: 16, Count: 12}} {
		for number := range 1 << z.Count {
			set := subset(z, number)
			one, _ := Build(z, ascending(set))
			for order := range 5 {
				isThere := false
				for frame := range 64 {
					isThere = isThere || inZone(z, frame, order) && allIn(set, frame, order)
				}
				if _, _, e := Alloc(one, order); (e == api.OK) != isThere {
					t.Fatalf("Alloc(%v, %d) has the error %d", one, order, e)
				}
			}
		}
	}
}

// P12.3
func TestBuildErrors(t *testing.T) {
	z := sample()
	for _, c := range []struct {
		frames []int
		want   int
	}{
		{nil, api.OK},
		{[]int{5}, api.OK},
		{[]int{52}, api.OK},
		{[]int{4}, api.ErrRange},
		{[]int{53}, api.ErrRange},
		{[]int{-1}, api.ErrRange},
		{[]int{math.MinInt}, api.ErrRange},
		{[]int{math.MaxInt}, api.ErrRange},
		{[]int{6, 6}, api.ErrOrder},
		{[]int{6, 7, 5}, api.ErrOrder},
		{[]int{6, 4}, api.ErrRange},
		{[]int{6, 6, 4}, api.ErrOrder},
		{[]int{6, 53, 6}, api.ErrRange},
	} {
		if _, e := Build(z, c.frames); e != c.want {
			t.Errorf("Build of %v has the error %d, want %d", c.frames, e, c.want)
		}
		expectBuild(t, z, c.frames)
	}
	for _, first := range numbers(z) {
		for _, second := range numbers(z) {
			expectBuild(t, z, []int{first, second})
		}
	}
	// The free lists are not looked at.
	z.Free = [5][]int{{-1, -1}, {7}, {}, {math.MaxInt}, {16, 16}}
	expectBuild(t, z, []int{16, 17, 18, 19, 21})
	z.Min = -1
	expectBuild(t, z, []int{4})
}

// P12.4 to P12.8: random sequences of calls.
func TestRandomSequences(t *testing.T) {
	random := rand.New(rand.NewSource(2))
	seen := map[int]int{}
	for round := range 40 {
		count := 1 + random.Intn(256)
		start := random.Intn(257 - count)
		z, e := New(round%4, round%2, start, count, random.Intn(count+1))
		if e != api.OK {
			t.Fatalf("New has the error %d", e)
		}
		for step := range 100 {
			a := randomAction(random, z)
			got := expect(t, z, a)
			seen[got.e]++
			if got.e == api.OK {
				z = got.z
			}
			if step%10 == 0 {
				expectLooks(t, z)
			}
		}
	}
	for _, e := range []int{api.OK, api.ErrRange, api.ErrMemory, api.ErrExist, api.ErrNone} {
		if seen[e] < 20 {
			t.Errorf("the result %d occurred %d times", e, seen[e])
		}
	}
}

func randomAction(random *rand.Rand, z api.Zone) action {
	frame, order := z.Start+random.Intn(z.Count+1), random.Intn(5)
	switch random.Intn(5) {
	case 0, 1:
		return allocAction(order)
	case 2, 3:
		return freeAction(frame>>order<<order, order)
	}
	return takeAction(frame)
}

type block struct{ frame, order int }

// P12.8: when all blocks have been given back, in whatever order, the zone is the one that New returned.
func TestAllGivenBack(t *testing.T) {
	random := rand.New(rand.NewSource(3))
	for range 60 {
		count := 1 + random.Intn(256)
		first, _ := New(1, api.ZoneNormal, random.Intn(257-count), count, 0)
		z := first
		var taken []block
		for Count(z) > 0 {
			order := min(random.Intn(8), 4)
			next, frame, e := Alloc(z, order)
			if e == api.ErrMemory {
				order, frame = 0, Frames(z)[random.Intn(Count(z))]
				next, e = Take(z, frame)
			}
			if e != api.OK || Count(next) != Count(z)-1<<order {
				t.Fatalf("the error %d of %v", e, z)
			}
			z = next
			taken = append(taken, block{frame, order})
		}
		if Largest(z) != -1 || Unusable(z, 4) != 0 {
			t.Fatalf("something is free in %v", z)
		}
		random.Shuffle(len(taken), func(i, j int) { taken[i], taken[j] = taken[j], taken[i] })
		for _, b := range taken {
			z, _ = Free(z, b.frame, b.order)
		}
		if !same(z, first) {
			t.Fatalf("after all of %v were given back: %v, want %v", taken, z, first)
		}
	}
}

// P12.1: lists that are far too long.
func TestLongLists(t *testing.T) {
	z := sample()
	z.Free[0] = slices.Repeat([]int{14}, 1<<20)
	if e := Check(z); e != api.ErrOrder {
		t.Errorf("Check = %d", e)
	}
	if _, e := Build(z, z.Free[0]); e != api.ErrOrder {
		t.Errorf("Build has the error %d", e)
	}
	if _, e := Build(z, []int{5, 6}); e != api.OK {
		t.Errorf("Build has the error %d", e)
	}
}

// mark is what the tests put behind the lists of an argument.
const mark = 9999

func withMarks(z api.Zone) api.Zone {
	out := deepCopy(z)
	for order, l := range out.Free {
		out.Free[order] = append(l, mark, mark)[:len(l)]
	}
	return out
}

// areMarked reports whether z is equal to want, with the marks in their places.
func areMarked(z, want api.Zone) bool {
	for _, l := range z.Free {
		if l[:len(l)+2][len(l)] != mark || l[:len(l)+2][len(l)+1] != mark {
			return false
		}
	}
	return same(z, want)
}

// overwrite changes everything in z, and behind its lists.
func overwrite(z api.Zone) {
	for _, l := range z.Free {
		l = l[:cap(l)]
		for i := range l {
			l[i] = 7
		}
	}
}

// Rule 'Values'.
func TestArgumentsStay(t *testing.T) {
	invalid := sample()
	invalid.Free[0] = []int{14, 15, 52}
	for _, z := range []api.Zone{sample(), invalid} {
		for _, a := range actions(z) {
			argument := withMarks(z)
			got := a.do(argument)
			if !areMarked(argument, z) {
				t.Fatalf("%s: the argument has changed", a.what)
			}
			want := outcome{deepCopy(got.z), got.frame, got.e}
			overwrite(argument)
			if !got.same(want) {
				t.Fatalf("%s: the result changes with the argument", a.what)
			}
			argument = withMarks(z)
			overwrite(a.do(argument).z)
			if !areMarked(argument, z) {
				t.Fatalf("%s: the argument changes with the result", a.what)
			}
		}
		argument := withMarks(z)
		Check(argument)
		Count(argument)
		Largest(argument)
		Unusable(argument, 4)
		IsFree(argument, 20)
		overwrite(api.Zone{Free: [5][]int{Frames(argument)}})
		if !areMarked(argument, z) {
			t.Fatal("a function that looks at a zone has changed it, or shares its memory")
		}
	}
}

// Rule 'Values': the frames of Build.
func TestFramesStay(t *testing.T) {
	frames := []int{5, 16, 17, 20, mark}
	z := withMarks(sample())
	got, _ := Build(z, frames[:4])
	want := deepCopy(got)
	if !slices.Equal(frames, []int{5, 16, 17, 20, mark}) || !areMarked(z, sample()) {
		t.Error("Build has changed its arguments")
	}
	for i := range frames {
		frames[i] = 7
	}
	overwrite(z)
	if !same(got, want) {
		t.Error("the result of Build changes with its arguments")
	}
}

// Rule 'Values': what is appended to a list of a result is in no other list of it.
func TestListsAreApart(t *testing.T) {
	for _, a := range append(actions(sample()), action{what: "New", do: func(api.Zone) outcome {
		z, e := New(0, 0, 3, 100, 0)
		return outcome{z: z, e: e}
	}}) {
		got := a.do(sample()).z
		want := deepCopy(got)
		for order := range got.Free {
			overwrite(api.Zone{Free: [5][]int{got.Free[order]}})
			got.Free[order] = want.Free[order]
			if !same(got, want) {
				t.Fatalf("%s: lists of the result share memory", a.what)
			}
		}
	}
}

// The examples of the chapter.
func TestExamples(t *testing.T) {
	lists := func(what string, z api.Zone, e int, want [5][]int) {
		t.Helper()
		if e != api.OK || !same(z, api.Zone{Start: z.Start, Count: z.Count, Free: want}) {
			t.Errorf("%s: %v, %d, want %v", what, z, e, want)
		}
	}
	z, e := New(0, 0, 0, 20, 0)
	lists("New", z, e, [5][]int{2: {16}, 4: {0}})
	z, frame, e := Alloc(z, 1)
	lists("the first Alloc", z, e, [5][]int{1: {18}, 4: {0}})
	if frame != 16 {
		t.Errorf("the first Alloc takes %d", frame)
	}
	z, frame, e = Alloc(z, 0)
	lists("the second Alloc", z, e, [5][]int{0: {19}, 4: {0}})
	if frame != 18 {
		t.Errorf("the second Alloc takes %d", frame)
	}
	z, e = Free(z, 18, 0)
	lists("the first Free", z, e, [5][]int{1: {18}, 4: {0}})
	z, e = Free(z, 16, 1)
	lists("the second Free", z, e, [5][]int{2: {16}, 4: {0}})
	z, e = New(0, 0, 3, 6, 0)
	lists("frames 3 to 8", z, e, [5][]int{0: {3, 8}, 2: {4}})
	if n := Unusable(z, 2); n != 2 {
		t.Errorf("Unusable = %d", n)
	}
}
