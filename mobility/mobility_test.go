package mobility

import (
	"math"
	"math/rand"
	"slices"
	"testing"

	"estovers/api"
)

// numbers are all frames of the machine, those beside it, and the limits of int.
func numbers() []int {
	out := []int{math.MinInt, math.MinInt + 16, -1 << 32, 1 << 32, math.MaxInt - 15, math.MaxInt}
	for frame := -17; frame <= 273; frame++ {
		out = append(out, frame)
	}
	return out
}

// orders are all orders, and numbers that are none.
func orders() []int { return []int{math.MinInt, -1, 0, 1, 2, 3, 4, 5, 63, 64, math.MaxInt} }

// kinds are all types, and numbers that are none.
func kinds() []int { return []int{math.MinInt, -1, 0, 1, 2, 3, 1 << 32, math.MaxInt} }

// actions are calls with all combinations of these arguments.
func actions() []action {
	var out []action
	for _, order := range orders() {
		for _, kind := range kinds() {
			out = append(out, allocAction(order, kind))
		}
	}
	for _, frame := range numbers() {
		for _, order := range orders() {
			out = append(out, freeAction(frame, order))
		}
		for _, kind := range kinds() {
			out = append(out, convertAction(frame, kind))
		}
	}
	return out
}

// P13.2
func TestNew(t *testing.T) {
	starts := []int{math.MinInt, -16, -1, 0, 1, 8, 15, 16, 32, 48, 128, 224, 232, 240, 255, 256, 272, 1 << 32, math.MaxInt - 255, math.MaxInt - 15, math.MaxInt}
	for _, start := range starts {
		for _, n := range []int{0, 1, 2, 3, 8, 14, 15, 16, 17, 1 << 20} {
			types := make([]int, n)
			for i := range types {
				types[i] = i * 7 % 5 % 3
			}
			expectNew(t, start, types)
		}
		for _, kind := range kinds() {
			expectNew(t, start, []int{kind})
			expectNew(t, start, []int{kind, 1})
			expectNew(t, start, []int{2, 0, kind})
		}
	}
}

func expectNew(t *testing.T, start int, types []int) {
	t.Helper()
	got, e := New(start, types)
	want, wantError := api.PageBlocks{Start: start, Types: types}, api.OK
	if inRange(want) {
		var set frameSet
		for i := range types {
			set.put(start+16*i, 4, true)
		}
		want = canonical(start, types, set)
	} else {
		want, wantError = api.PageBlocks{}, api.ErrRange
	}
	if e != wantError || !same(got, want) {
		t.Fatalf("New(%d, %d types) = %v, %d, want %v, %d", start, len(types), got, e, want, wantError)
	}
	if e == api.OK {
		expectLooks(t, got)
	}
}

// sample returns page blocks from 32 to 95 with these free frames: of an unmovable one 33, 36 to 39 and 40 to 47, of a movable one all, of a reclaimable one 66, 67 and 72 to 79, and of a movable one 82, 83, 84 and 95.
func sample() api.PageBlocks {
	return api.PageBlocks{Start: 32, Types: []int{1, 0, 2, 0}, Free: [3][5][]int{
		{0: {84, 95}, 1: {82}, 4: {48}},
		{0: {33}, 2: {36}, 3: {40}},
		{1: {66}, 3: {72}},
	}}
}

type fault struct {
	what   string
	change func(p *api.PageBlocks)
	want   int
}

// rangeFaults are changes of Start and Types of the sample, with the results of Check.
func rangeFaults() []fault {
	return []fault{
		{"nothing", func(p *api.PageBlocks) {}, api.OK},
		{"start -16", func(p *api.PageBlocks) { p.Start = -16 }, api.ErrRange},
		{"the least start", func(p *api.PageBlocks) { p.Start = math.MinInt }, api.ErrRange},
		{"start 33", func(p *api.PageBlocks) { p.Start = 33 }, api.ErrRange},
		{"start 208", func(p *api.PageBlocks) { p.Start = 208 }, api.ErrRange},
		{"start 192", func(p *api.PageBlocks) { p.Start = 192 }, api.ErrForm},
		{"a start that is far too great", func(p *api.PageBlocks) { p.Start = math.MaxInt - 15 }, api.ErrRange},
		{"no page blocks", func(p *api.PageBlocks) { p.Types = nil }, api.ErrRange},
		{"14 page blocks", func(p *api.PageBlocks) { p.Types = append(p.Types, make([]int, 10)...) }, api.OK},
		{"15 page blocks", func(p *api.PageBlocks) { p.Types = append(p.Types, make([]int, 11)...) }, api.ErrRange},
		{"17 page blocks from 0 on", func(p *api.PageBlocks) { *p = api.PageBlocks{Types: make([]int, 17)} }, api.ErrRange},
		{"16 page blocks from 0 on", func(p *api.PageBlocks) { *p = api.PageBlocks{Types: make([]int, 16)} }, api.OK},
		{"type -1", func(p *api.PageBlocks) { p.Types[1] = -1 }, api.ErrRange},
		{"type 3", func(p *api.PageBlocks) { p.Types[3] = 3 }, api.ErrRange},
		{"the greatest type", func(p *api.PageBlocks) { p.Types[0] = math.MaxInt }, api.ErrRange},
		{"another type of a page block", func(p *api.PageBlocks) { p.Types[0] = 2 }, api.ErrForm},
		{"another type of all page blocks", func(p *api.PageBlocks) { p.Types = []int{2, 2, 1, 2} }, api.ErrForm},
		{"fewer page blocks", func(p *api.PageBlocks) { p.Types = p.Types[:3] }, api.ErrForm},
	}
}

// listFaults are changes of the lists of the sample, with the results of Check.
func listFaults() []fault {
	return []fault{
		{"nothing is free", func(p *api.PageBlocks) { p.Free = [3][5][]int{} }, api.OK},
		{"a frame before the page blocks", func(p *api.PageBlocks) { p.Free[1][0] = []int{31, 33} }, api.ErrForm},
		{"a frame behind them", func(p *api.PageBlocks) { p.Free[0][0] = []int{84, 96} }, api.ErrForm},
		{"a block behind them", func(p *api.PageBlocks) { p.Free[0][4] = []int{96} }, api.ErrForm},
		{"a negative block", func(p *api.PageBlocks) { p.Free[0][4] = []int{-16, 48} }, api.ErrForm},
		{"the least frame", func(p *api.PageBlocks) { p.Free[2][0] = []int{math.MinInt} }, api.ErrForm},
		{"the greatest frame", func(p *api.PageBlocks) { p.Free[2][0] = []int{math.MaxInt} }, api.ErrForm},
		{"a block in a wrong place", func(p *api.PageBlocks) { p.Free[1][2] = []int{34} }, api.ErrForm},
		{"a page block in a wrong place", func(p *api.PageBlocks) { p.Free[0][4] = []int{56} }, api.ErrForm},
		{"a block of another type", func(p *api.PageBlocks) { p.Free[2][3], p.Free[0][3] = nil, []int{72} }, api.ErrForm},
		{"a frame of another type", func(p *api.PageBlocks) { p.Free[1][0] = []int{33, 64} }, api.ErrForm},
		{"descending", func(p *api.PageBlocks) { p.Free[0][0] = []int{95, 84} }, api.ErrOrder},
		{"twice in a list", func(p *api.PageBlocks) { p.Free[2][3] = []int{72, 72} }, api.ErrOrder},
		{"no block, and descending", func(p *api.PageBlocks) { p.Free[0][1] = []int{82, 81} }, api.ErrForm},
		{"a frame in two blocks", func(p *api.PageBlocks) { p.Free[1][0] = []int{33, 41} }, api.ErrExist},
		{"a frame in a page block", func(p *api.PageBlocks) { p.Free[0][0] = []int{63, 84, 95} }, api.ErrExist},
		{"a block in two lists", func(p *api.PageBlocks) { p.Free[1][2] = []int{36, 40} }, api.ErrExist},
		{"two frames", func(p *api.PageBlocks) { p.Free[1][0] = []int{33, 34} }, api.OK},
		{"two frames that are buddies", func(p *api.PageBlocks) { p.Free[0][0] = []int{84, 85, 95} }, api.ErrState},
		{"two blocks of order 3 that are buddies", func(p *api.PageBlocks) { p.Free[2][1], p.Free[2][3] = nil, []int{64, 72} }, api.ErrState},
		{"two page blocks", func(p *api.PageBlocks) { p.Free[0] = [5][]int{4: {48, 80}} }, api.OK},
	}
}

// P13.1
func TestFaults(t *testing.T) {
	all := append(rangeFaults(), listFaults()...)
	for _, one := range all {
		p := sample()
		one.change(&p)
		if got := Check(p); got != one.want {
			t.Errorf("%s: Check = %d, want %d", one.what, got, one.want)
		}
		for _, another := range all {
			q := deepCopy(p)
			if len(q.Types) == 4 {
				another.change(&q)
			}
			expectLooks(t, q)
			expect(t, q, allocAction(1, 1))
			expect(t, q, freeAction(70, 0))
			expect(t, q, convertAction(40, 0))
			expectMixed(t, q, make([]int, 64))
		}
	}
}

// P13.1: the errors of elements by type, then by order, then by position, and before those of two blocks; among these ErrExist before ErrState.
func TestFirstFault(t *testing.T) {
	for _, c := range []struct {
		what string
		free [3][5][]int
		want int
	}{
		{"type before order", [3][5][]int{{4: {48, 48}}, {0: {31}}, {}}, api.ErrOrder},
		{"type before order, the other way round", [3][5][]int{{4: {32}}, {0: {33, 33}}, {}}, api.ErrForm},
		{"the last type", [3][5][]int{{}, {4: {32, 32}}, {0: {31}}}, api.ErrOrder},
		{"order before position", [3][5][]int{{0: {84, 95, 82}, 1: {81}}, {}, {}}, api.ErrOrder},
		{"order before position, the other way round", [3][5][]int{{0: {84, 95, 31}, 1: {82, 82}}, {}, {}}, api.ErrForm},
		{"position", [3][5][]int{{}, {}, {0: {66, 66, 31}}}, api.ErrOrder},
		{"position, the other way round", [3][5][]int{{}, {}, {0: {66, 31, 31}}}, api.ErrForm},
		{"elements before two blocks", [3][5][]int{{0: {48}, 4: {48}}, {}, {0: {31}}}, api.ErrForm},
		{"elements before buddies", [3][5][]int{{0: {84, 85}}, {}, {4: {64, 64}}}, api.ErrOrder},
		{"two blocks before buddies", [3][5][]int{{0: {84, 85}}, {}, {0: {66}, 1: {66}}}, api.ErrExist},
		{"two blocks before buddies, the other way round", [3][5][]int{{0: {48}, 4: {48}}, {}, {0: {66, 67}}}, api.ErrExist},
		{"buddies in two blocks", [3][5][]int{{}, {0: {32, 33}, 1: {32}}, {}}, api.ErrExist},
	} {
		p := sample()
		p.Free = c.free
		if got := Check(p); got != c.want {
			t.Errorf("%s: Check = %d, want %d", c.what, got, c.want)
		}
	}
}

// P13.1: a value is valid exactly if the result is OK, in random lists.
func TestRandomLists(t *testing.T) {
	random := rand.New(rand.NewSource(1))
	seen := map[int]int{}
	for range 40000 {
		p := api.PageBlocks{Start: 16 * random.Intn(14), Types: []int{random.Intn(3), random.Intn(3)}}
		for range random.Intn(7) {
			frame, order := p.Start+random.Intn(32), random.Intn(5)
			kind := kindAt(p, frame)
			if random.Intn(20) == 0 {
				kind = random.Intn(3)
			}
			l := append(p.Free[kind][order], frame>>order<<order)
			if random.Intn(4) > 0 {
				slices.Sort(l)
			}
			p.Free[kind][order] = l
		}
		e := Check(p)
		if e != checked(p) || (e == api.OK) != isValid(p) {
			t.Fatalf("Check(%v) = %d, want %d", p, e, checked(p))
		}
		seen[e]++
	}
	for _, e := range []int{api.OK, api.ErrForm, api.ErrOrder, api.ErrExist, api.ErrState} {
		if seen[e] < 50 {
			t.Errorf("the result %d occurred %d times", e, seen[e])
		}
	}
}

// P13.3 to P13.6: all arguments, for the sample, for one that is not valid, and at the limits of the machine.
func TestAllArguments(t *testing.T) {
	invalid := sample()
	invalid.Free[2][0] = []int{67}
	first, _ := New(0, []int{2, 1})
	last, _ := New(240, []int{0})
	all, _ := New(0, []int{0, 1, 2, 0, 1, 2, 0, 1, 2, 0, 1, 2, 0, 1, 2, 0})
	for _, p := range []api.PageBlocks{sample(), invalid, first, last, all, {}} {
		for _, a := range actions() {
			expect(t, p, a)
		}
		expectLooks(t, p)
	}
}

// P13.3 to P13.6: all sets of free frames of half a page block, with the other half free or not.
func TestAllSets(t *testing.T) {
	for number := range 1 << 9 {
		var set frameSet
		for i := range 8 {
			set[232+i] = number>>i&1 == 1
		}
		set.put(224, 3, number>>8 == 1)
		p := canonical(224, []int{number % 3}, set)
		expectLooks(t, p)
		for order := range 5 {
			for kind := range 3 {
				expect(t, p, allocAction(order, kind))
			}
			for frame := 224; frame <= 240; frame++ {
				expect(t, p, freeAction(frame, order))
			}
		}
		expect(t, p, convertAction(239, (number+1)%3))
	}
}

// freeParts are sets of free frames of a page block.
func freeParts() [][]int {
	return [][]int{
		{},
		{0, 1, 2, 3, 4, 5, 6, 7, 8, 9, 10, 11, 12, 13, 14, 15},
		{0, 1, 2, 3, 4, 5, 6, 7},
		{1, 4, 5, 6, 7, 8, 9, 10, 11, 12, 13, 14, 15},
		{2, 3, 12, 13, 14, 15},
		{9, 10},
	}
}

// P13.3, P13.5: three page blocks of all types with these free frames.
func TestAllFallbacks(t *testing.T) {
	parts := freeParts()
	n := len(parts)
	converted, kept := 0, 0
	for number := range n * n * n * 27 {
		var set frameSet
		for i, part := range []int{number % n, number / n % n, number / n / n % n} {
			for _, frame := range parts[part] {
				set[80+16*i+frame] = true
			}
		}
		code := number / n / n / n
		p := canonical(80, []int{code % 3, code / 3 % 3, code / 9}, set)
		for request := range 15 {
			order, kind := request/3, request%3
			got := expect(t, p, allocAction(order, kind))
			switch {
			case got.e != api.OK:
			case !slices.Equal(got.p.Types, p.Types):
				converted++
			case Type(p, got.frame) != kind:
				kept++
			}
		}
		expect(t, p, convertAction(80+number%48, number%3))
	}
	if converted < 1000 || kept < 1000 {
		t.Errorf("%d requests converted a page block, %d took a part of a foreign one", converted, kept)
	}
}

// P13.3: a request of the own type takes the least order, one that falls back the greatest; the types in the order of the chapter.
func TestFallbackOrder(t *testing.T) {
	var set frameSet
	for _, first := range []int{0, 16, 32} {
		// The free blocks are 1, 2 (order 1), 4 (order 2) and 8 (order 3).
		set.put(first+1, 0, true)
		set.put(first+2, 1, true)
		set.put(first+4, 2, true)
		set.put(first+8, 3, true)
	}
	p := canonical(0, []int{0, 1, 2}, set)
	for kind := range 3 {
		for order, want := range []int{1, 2, 4, 8} {
			got, frame, e := Alloc(p, order, kind)
			if frame != 16*kind+want || e != api.OK || !slices.Equal(got.Types, p.Types) {
				t.Errorf("Alloc(%d, %d) = %v, %d, %d", order, kind, got.Types, frame, e)
			}
		}
	}
	for kind, others := range [][]int{{2, 1}, {2, 0}, {1, 0}} {
		// Nothing of the own type is free, then nothing of the first fallback type either.
		rest := set
		rest.put(16*kind, 4, false)
		for _, other := range others {
			p := canonical(0, []int{0, 1, 2}, rest)
			got, frame, e := Alloc(p, 0, kind)
			if frame != 16*other+8 || e != api.OK || Type(got, frame) != kind || !slices.Equal(got.Free[kind][0], []int{16*other + 1, 16*other + 9}) {
				t.Errorf("Alloc(0, %d) takes %d of type %d: %v, %d", kind, frame, other, got, e)
			}
			rest.put(16*other, 4, false)
		}
		if _, _, e := Alloc(canonical(0, []int{0, 1, 2}, rest), 0, kind); e != api.ErrMemory {
			t.Errorf("Alloc(0, %d) of nothing has the error %d", kind, e)
		}
	}
}

// P13.3: the order comes before the type when a request falls back; a block below the order 3 is taken without converting its page block.
func TestFallbackKeepsType(t *testing.T) {
	p := api.PageBlocks{Types: []int{0, 1, 2}, Free: [3][5][]int{{}, {2: {20, 28}}, {1: {34}, 0: {33}}}}
	got, frame, e := Alloc(p, 0, 0)
	want := api.PageBlocks{Types: []int{0, 1, 2}, Free: [3][5][]int{{}, {0: {21}, 1: {22}, 2: {28}}, {1: {34}, 0: {33}}}}
	if frame != 20 || e != api.OK || !same(got, want) {
		t.Errorf("Alloc(0, 0) = %v, %d, %d", got, frame, e)
	}
	p.Free[1][2] = nil
	got, frame, e = Alloc(p, 0, 0)
	want = api.PageBlocks{Types: []int{0, 1, 2}, Free: [3][5][]int{2: {0: {33, 35}}}}
	if frame != 34 || e != api.OK || !same(got, want) {
		t.Errorf("Alloc(0, 0) = %v, %d, %d", got, frame, e)
	}
}

// P13.8: a request succeeds exactly if a block of its order has only free frames; one that does not fall back gets a block of its type, and changes no type.
func TestConsequences(t *testing.T) {
	random := rand.New(rand.NewSource(2))
	for range 3000 {
		var set frameSet
		for frame := 16; frame < 64; {
			order := random.Intn(5)
			if frame%(1<<order) == 0 {
				set.put(frame, order, random.Intn(3) == 0)
				frame += 1 << order
			}
		}
		p := canonical(16, []int{random.Intn(3), random.Intn(3), random.Intn(3)}, set)
		for order := range 5 {
			isFree := false
			for frame := 16; frame < 64; frame += 1 << order {
				isFree = isFree || set.count(frame, order) == 1<<order
			}
			for kind := range 3 {
				got, frame, e := Alloc(p, order, kind)
				if (e == api.OK) != isFree {
					t.Fatalf("Alloc(%v, %d, %d) has the error %d", p, order, kind, e)
				}
				isOwn := slices.ContainsFunc(p.Free[kind][order:], func(l []int) bool { return len(l) > 0 })
				if isOwn && (kindAt(p, frame) != kind || !slices.Equal(got.Types, p.Types)) {
					t.Fatalf("Alloc(%v, %d, %d) falls back to %d", p, order, kind, frame)
				}
			}
		}
	}
}

// P13.3 to P13.8: random sequences of calls; everything is given back in the end.
func TestRandomSequences(t *testing.T) {
	random := rand.New(rand.NewSource(3))
	seen := map[int]int{}
	for range 60 {
		types := make([]int, 1+random.Intn(16))
		for i := range types {
			types[i] = random.Intn(3)
		}
		p, e := New(16*random.Intn(17-len(types)), types)
		if e != api.OK {
			t.Fatalf("New has the error %d", e)
		}
		for step := range 100 {
			got := expect(t, p, randomAction(random, p))
			seen[got.e]++
			if got.e == api.OK {
				p = got.p
			}
			if step%20 == 0 {
				expectLooks(t, p)
			}
		}
		giveBack(t, random, p)
	}
	for _, e := range []int{api.OK, api.ErrRange, api.ErrMemory, api.ErrExist} {
		if seen[e] < 20 {
			t.Errorf("the result %d occurred %d times", e, seen[e])
		}
	}
}

func randomAction(random *rand.Rand, p api.PageBlocks) action {
	frame, order := p.Start+random.Intn(16*len(p.Types)+1), random.Intn(5)
	switch random.Intn(6) {
	case 0:
		return convertAction(frame, random.Intn(3))
	case 1, 2:
		return freeAction(frame>>order<<order, order)
	}
	return allocAction(order, random.Intn(3))
}

// giveBack gives back all frames that are not free, in a random order. P13.8: each page block is one free block of order 4 then.
func giveBack(t *testing.T, random *rand.Rand, p api.PageBlocks) {
	t.Helper()
	for _, i := range random.Perm(16 * len(p.Types)) {
		frame, set := p.Start+i, setOf(p)
		order := random.Intn(5)
		for set.count(frame>>order<<order, order) > 0 && order > 0 {
			order--
		}
		if !set[frame] {
			p = expect(t, p, freeAction(frame>>order<<order, order)).p
		}
	}
	for i, kind := range p.Types {
		if !slices.Contains(p.Free[kind][4], p.Start+16*i) {
			t.Fatalf("the page block %d is not free in %v", i, p)
		}
	}
	if n := Count(p, 0) + Count(p, 1) + Count(p, 2); n != 16*len(p.Types) {
		t.Fatalf("%d frames are free in %v", n, p)
	}
}

// P13.7
func TestMixed(t *testing.T) {
	none := slices.Repeat([]int{-1}, 64)
	with := func(held []int, place, kind int) []int {
		out := slices.Clone(held)
		out[place] = kind
		return out
	}
	own := slices.Concat(slices.Repeat([]int{1}, 16), slices.Repeat([]int{0}, 16), slices.Repeat([]int{2}, 16), slices.Repeat([]int{0}, 16))
	for _, c := range []struct {
		what string
		held []int
		want int
		e    int
	}{
		{"nothing is held", none, 0, api.OK},
		{"all is held for the own types", own, 0, api.OK},
		{"all is held for one type", make([]int, 64), 2, api.OK},
		{"all is held for reclaimable requests", slices.Repeat([]int{2}, 64), 3, api.OK},
		{"a frame for another type", with(own, 15, 0), 1, api.OK},
		{"two frames of a page block", with(with(none, 16, 1), 31, 2), 1, api.OK},
		{"a frame of each of two page blocks", with(with(none, 31, 1), 32, 0), 2, api.OK},
		{"the last frame", with(none, 63, 2), 1, api.OK},
		{"a frame for its own type", with(none, 63, 0), 0, api.OK},
		{"no elements", nil, 0, api.ErrForm},
		{"one too few", none[:63], 0, api.ErrForm},
		{"one too many", append(slices.Clone(none), -1), 0, api.ErrForm},
		{"one too many, and no type", append(with(none, 0, 3), -1), 0, api.ErrForm},
		{"type 3", with(none, 63, 3), 0, api.ErrArg},
		{"type -2", with(none, 0, -2), 0, api.ErrArg},
		{"the least type", with(own, 40, math.MinInt), 0, api.ErrArg},
	} {
		if n, e := Mixed(sample(), c.held); n != c.want || e != c.e {
			t.Errorf("%s: Mixed = %d, %d, want %d, %d", c.what, n, e, c.want, c.e)
		}
	}
	if n, e := Mixed(api.PageBlocks{}, nil); n != 0 || e != api.ErrRange {
		t.Errorf("Mixed of no page blocks = %d, %d", n, e)
	}
}

// P13.7: random frames that are held, whether they are free or not.
func TestRandomMixed(t *testing.T) {
	random := rand.New(rand.NewSource(4))
	seen := map[int]int{}
	for range 5000 {
		types := make([]int, 1+random.Intn(5))
		held := make([]int, max(0, 16*len(types)+random.Intn(22)/21-random.Intn(22)/21))
		for i := range types {
			types[i] = random.Intn(3)
		}
		for i := range held {
			held[i] = -1
			if random.Intn(16) == 0 {
				held[i] = random.Intn(3) - random.Intn(200)/199*4
			}
		}
		p, _ := New(16*random.Intn(12), types)
		seen[expectMixed(t, p, held)]++
	}
	for _, e := range []int{api.OK, api.ErrForm, api.ErrArg} {
		if seen[e] < 20 {
			t.Errorf("the result %d occurred %d times", e, seen[e])
		}
	}
}

// P13.1: lists that are far too long.
func TestLongLists(t *testing.T) {
	p := sample()
	p.Free[2][0] = slices.Repeat([]int{64}, 1<<20)
	if e := Check(p); e != api.ErrOrder {
		t.Errorf("Check = %d", e)
	}
	p = sample()
	p.Types = slices.Repeat([]int{-1}, 1<<20)
	if e := Check(p); e != api.ErrRange {
		t.Errorf("Check = %d", e)
	}
}

// mark is what the tests put behind the lists of an argument.
const mark = 9999

// withMarks returns a copy with spare capacity behind each list.
func withMarks(p api.PageBlocks) api.PageBlocks {
	p = deepCopy(p)
	for _, l := range lists(&p) {
		*l = append(*l, mark, mark)[:len(*l)]
	}
	return p
}

// areMarked reports whether p is equal to want, with the marks in their places.
func areMarked(p, want api.PageBlocks) bool {
	for _, l := range lists(&p) {
		behind := (*l)[len(*l) : len(*l)+2]
		if !slices.Equal(behind, []int{mark, mark}) {
			return false
		}
	}
	return same(p, want)
}

// overwrite changes everything in a list, and behind it.
func overwrite(l []int) {
	l = l[:cap(l)]
	for i := range l {
		l[i] = 7
	}
}

func overwriteAll(p api.PageBlocks) {
	for _, l := range lists(&p) {
		overwrite(*l)
	}
}

// Rule 'Values'.
func TestArgumentsStay(t *testing.T) {
	invalid := sample()
	invalid.Free[1][0] = []int{33, 41}
	for _, p := range []api.PageBlocks{sample(), invalid} {
		for _, a := range actions() {
			argument := withMarks(p)
			got := a.do(argument)
			if !areMarked(argument, p) {
				t.Fatalf("%s: the argument has changed", a.what)
			}
			want := outcome{deepCopy(got.p), got.frame, got.e}
			overwriteAll(argument)
			if !got.same(want) {
				t.Fatalf("%s: the result changes with the argument", a.what)
			}
			argument = withMarks(p)
			overwriteAll(a.do(argument).p)
			if !areMarked(argument, p) {
				t.Fatalf("%s: the argument changes with the result", a.what)
			}
		}
		argument := withMarks(p)
		held := append(make([]int, 64), mark)
		Check(argument)
		Type(argument, 40)
		Count(argument, 0)
		Mixed(argument, held[:64])
		if !areMarked(argument, p) || !slices.Equal(held, append(make([]int, 64), mark)) {
			t.Fatal("a function that looks at page blocks has changed its arguments")
		}
	}
}

// Rule 'Values': the types of New.
func TestTypesStay(t *testing.T) {
	types := []int{2, 0, 1, mark}
	p, _ := New(16, types[:3])
	if !slices.Equal(types, []int{2, 0, 1, mark}) {
		t.Error("New has changed its argument")
	}
	want := deepCopy(p)
	overwrite(types)
	if !same(p, want) {
		t.Error("the result of New changes with its argument")
	}
	types = []int{2, 0, 1, mark}
	p, _ = New(16, types[:3])
	overwriteAll(p)
	if !slices.Equal(types, []int{2, 0, 1, mark}) {
		t.Error("the argument of New changes with its result")
	}
}

// Rule 'Values': what is appended to a list of a result is in no other list of it.
func TestListsAreApart(t *testing.T) {
	for _, a := range append(actions(), action{what: "New", do: func(api.PageBlocks) outcome {
		p, e := New(0, []int{0, 1, 2, 0})
		return outcome{p: p, e: e}
	}}) {
		got := a.do(sample()).p
		want := deepCopy(got)
		for i, l := range lists(&got) {
			overwrite(*l)
			*l = *lists(&want)[i]
			if !same(got, want) {
				t.Fatalf("%s: lists of the result share memory", a.what)
			}
		}
	}
}

// The examples of the chapter.
func TestExamples(t *testing.T) {
	p, e := New(0, []int{0, 1})
	compare := func(what string, frame, wantFrame int, types []int, free [3][5][]int) {
		t.Helper()
		if e != api.OK || frame != wantFrame || !same(p, api.PageBlocks{Types: types, Free: free}) {
			t.Errorf("%s: %v, %d, %d, want %v, %v, %d", what, p, frame, e, types, free, wantFrame)
		}
	}
	compare("New", 0, 0, []int{0, 1}, [3][5][]int{{4: {0}}, {4: {16}}, {}})
	p, frame, e := Alloc(p, 0, 2)
	compare("the first Alloc", frame, 16, []int{0, 2}, [3][5][]int{{4: {0}}, {}, {0: {17}, 1: {18}, 2: {20}, 3: {24}}})
	p, frame, e = Alloc(p, 4, 1)
	compare("the second Alloc", frame, 0, []int{1, 2}, [3][5][]int{{}, {}, {0: {17}, 1: {18}, 2: {20}, 3: {24}}})
	p, frame, e = Alloc(p, 2, 0)
	compare("the third Alloc", frame, 24, []int{1, 0}, [3][5][]int{{0: {17}, 1: {18}, 2: {20, 28}}, {}, {}})
}
