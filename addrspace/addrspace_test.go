package addrspace

import (
	"math"
	"math/rand"
	"slices"
	"testing"

	"estovers/api"
	"estovers/rangetree"
)

// limits are the limits of int and of the address space, and the numbers beside them.
func limits() []int {
	return []int{math.MinInt, math.MinInt + 1, math.MinInt + 512, -1 << 32, -513, -512, -2, -1, 0, 1, 2, 3, 4, 12, 13, 510, 511, 512, 513, 1 << 32, math.MaxInt - 512, math.MaxInt - 511, math.MaxInt - 1, math.MaxInt}
}

// treeOf returns the tree that Build makes of regions.
func treeOf(t *testing.T, l ...api.Region) api.RegionTree {
	t.Helper()
	tree, e := rangetree.Build(l)
	if e != api.OK {
		t.Fatalf("Build(%v) = %d", l, e)
	}
	return tree
}

// shuffled returns a tree of regions that are inserted in a random order.
func shuffled(t *testing.T, random *rand.Rand, l []api.Region) api.RegionTree {
	t.Helper()
	var tree api.RegionTree
	for _, i := range random.Perm(len(l)) {
		var e int
		if tree, e = rangetree.Insert(tree, l[i]); e != api.OK {
			t.Fatalf("Insert of %v: %d", l[i], e)
		}
	}
	return tree
}

// heap, data, stack and file return regions with these pages: anonymous memory that can be written, read, or grows, and a file that is mapped from a page of it on.
func heap(start, pages int) api.Region {
	return api.Region{Start: start, Pages: pages, Prot: 3, File: -1}
}

func data(start, pages int) api.Region {
	return api.Region{Start: start, Pages: pages, Prot: 1, File: -1}
}

func stack(start, pages int) api.Region {
	return api.Region{Start: start, Pages: pages, Prot: 3, Flags: api.FlagGrows, File: -1}
}

func file(start, pages, index int) api.Region {
	return api.Region{Start: start, Pages: pages, Prot: 1, Flags: api.FlagShared, File: 2, Index: index}
}

// pinned returns a region with the flag of locked pages.
func pinned(r api.Region) api.Region {
	r.Flags |= api.FlagLocked
	return r
}

// kinds makes regions of different kinds.
func kinds() []func(start, pages int) api.Region {
	return []func(start, pages int) api.Region{
		heap, stack,
		func(start, pages int) api.Region { return file(start, pages, start) },
		func(start, pages int) api.Region { return pinned(data(start, pages)) },
	}
}

// smallLists calls f for all lists of regions of these kinds in the first pages, also of mergeable ones.
func smallLists(pages int, f func(l []api.Region)) {
	var extend func(l []api.Region, page int)
	extend = func(l []api.Region, page int) {
		if page >= pages {
			f(l)
			return
		}
		extend(l, page+1)
		for count := 1; page+count <= pages; count++ {
			for _, kind := range kinds() {
				extend(append(slices.Clone(l), kind(page, count)), page+count)
			}
		}
	}
	extend(nil, 0)
}

// smallActions returns actions with all ranges of the first pages.
func smallActions(pages int) []action {
	var out []action
	for page := -1; page <= pages; page++ {
		for count := 0; page+count <= pages; count++ {
			out = append(out, unmapAction(page, count), protectAction(page, count, 1), protectAction(page, count, 3), lockAction(page, count, true), lockAction(page, count, false))
			for _, kind := range kinds() {
				out = append(out, mapAction(kind(page, count)))
			}
		}
	}
	return out
}

// P23.1 to P23.5: all functions, for all short lists of regions, with all ranges.
func TestSmallSpaces(t *testing.T) {
	actions := smallActions(4)
	valid, mergeable := 0, 0
	smallLists(4, func(l []api.Region) {
		tree := treeOf(t, l...)
		expectLooks(t, tree, []int{-1, 0, 1, 2, 3, 4, 5, 508, 509, 512})
		if Check(tree) == api.ErrState {
			mergeable++
			if mergeable%9 != 0 {
				return
			}
		} else {
			valid++
		}
		for _, a := range actions {
			expect(t, tree, a)
		}
		for page := -1; page <= 4; page++ {
			expect(t, tree, growAction(tree, page))
		}
	})
	if valid < 700 || mergeable < 200 {
		t.Errorf("too few cases: %d, %d", valid, mergeable)
	}
}

// randomRegion returns a valid region in the pages from a base on, of the kind of a few.
func randomRegion(random *rand.Rand, base int) api.Region {
	r := api.Region{Start: base + random.Intn(48), Pages: 1 + random.Intn(4), Prot: 1 + 2*random.Intn(2), File: -1}
	switch random.Intn(4) {
	case 0:
		r.File = random.Intn(2)
		r.Flags = []int{0, 1, 4, 5}[random.Intn(4)]
		r.Index = (r.Start - base) % 12
	case 1:
		r.Flags = api.FlagGrows | []int{0, 4, 8}[random.Intn(3)]
	case 2:
		r.Flags = random.Intn(2) * api.FlagLocked
	}
	r.Pages = min(r.Pages, 512-r.Start)
	r.Start = min(r.Start, 511)
	return r
}

// randomAction returns an action in the pages from a base on.
func randomAction(random *rand.Rand, tree api.RegionTree, base int) action {
	page, count := base+random.Intn(50), 1+random.Intn(6)
	switch random.Intn(9) {
	case 0:
		return unmapAction(page, 1)
	case 1:
		return unmapAction(page, count)
	case 2:
		return protectAction(page, 1, 1+2*random.Intn(2))
	case 3:
		return protectAction(page, count, 1+2*random.Intn(2))
	case 4:
		return lockAction(page, count, random.Intn(2) == 0)
	case 5:
		return growAction(tree, page)
	}
	return mapAction(randomRegion(random, base))
}

// outcome is the name of a function and the error that it returned.
type outcome struct {
	name string
	e    int
}

// P23.1 to P23.5 and P23.7: long sequences, from trees of all shapes, also where an address space is full, and at the end of the pages.
func TestSequences(t *testing.T) {
	random := rand.New(rand.NewSource(1))
	met := map[outcome]int{}
	for _, base := range []int{0, 100, 466} {
		var tree api.RegionTree
		for step := range 6000 {
			a := randomAction(random, tree, base)
			got, e := expectConsequences(t, tree, a)
			met[outcome{a.name, e}]++
			if e != api.OK {
				continue
			}
			if a.name == "Grow" && a.from > 0 {
				if r, ok := Find(got, a.from-1); ok {
					t.Fatalf("%s leaves no page free above %v", a.what, r)
				}
			}
			tree = shuffled(t, random, rangetree.List(got))
			if step%10 == 0 {
				expectLooks(t, tree, []int{a.from - 1, a.from, a.to, base, 1, 2, 100, 400})
			}
		}
	}
	for _, name := range []string{"Map", "Unmap", "Protect", "Lock", "Grow"} {
		if met[outcome{name, api.OK}] < 100 {
			t.Errorf("too few cases of %s: %v", name, met)
		}
	}
	for _, o := range []outcome{
		{"Map", api.ErrExist}, {"Map", api.ErrLimit}, {"Unmap", api.ErrLimit}, {"Unmap", api.ErrRange},
		{"Protect", api.ErrLimit}, {"Protect", api.ErrFault}, {"Lock", api.ErrLimit}, {"Lock", api.ErrFault}, {"Grow", api.ErrExist}, {"Grow", api.ErrFault},
	} {
		if met[o] < 20 {
			t.Errorf("too few cases of %v: %v", o, met)
		}
	}
}

// row returns regions of one page, each with a free page behind it.
func row(count int) []api.Region {
	var l []api.Region
	for i := range count {
		l = append(l, heap(2*i, 1))
	}
	return l
}

// P23.1 to P23.4: the limit is about the regions after merging.
func TestMostRegions(t *testing.T) {
	full := treeOf(t, row(12)...)
	wide := treeOf(t, append(row(11), heap(40, 9))...)
	if e := Check(full); e != api.OK || Count(full) != 12 {
		t.Errorf("twelve regions: %d, %d", e, Count(full))
	}
	over := treeOf(t, row(13)...)
	if e := Check(over); e != api.ErrLimit || Count(over) != 0 {
		t.Errorf("thirteen regions: %d, %d", e, Count(over))
	}
	for _, x := range []struct {
		tree  api.RegionTree
		a     action
		count int
		e     int
	}{
		{full, mapAction(heap(30, 1)), 0, api.ErrLimit},
		{full, mapAction(data(23, 1)), 0, api.ErrLimit},
		{full, mapAction(heap(22, 1)), 0, api.ErrExist},
		{full, mapAction(heap(23, 4)), 12, api.OK},
		{full, mapAction(heap(5, 1)), 11, api.OK},
		{treeOf(t, row(11)...), mapAction(stack(23, 1)), 12, api.OK},
		{full, unmapAction(22, 1), 11, api.OK},
		{full, unmapAction(511, 1), 12, api.OK},
		{wide, unmapAction(44, 1), 0, api.ErrLimit},
		{wide, unmapAction(44, 5), 12, api.OK},
		{wide, unmapAction(40, 1), 12, api.OK},
		{wide, unmapAction(20, 25), 11, api.OK},
		{wide, protectAction(40, 1, 1), 0, api.ErrLimit},
		{wide, protectAction(44, 1, 1), 0, api.ErrLimit},
		{wide, protectAction(40, 9, 1), 12, api.OK},
		{wide, protectAction(44, 1, 3), 12, api.OK},
		{wide, protectAction(39, 2, 1), 0, api.ErrFault},
		{wide, lockAction(48, 1, true), 0, api.ErrLimit},
		{wide, lockAction(40, 9, true), 12, api.OK},
		{wide, lockAction(48, 1, false), 12, api.OK},
		{wide, lockAction(48, 2, true), 0, api.ErrFault},
	} {
		got, e := expectConsequences(t, x.tree, x.a)
		if e != x.e || Count(got) != x.count {
			t.Errorf("%s has %d regions, %d, want %d, %d", x.a.what, Count(got), e, x.count, x.e)
		}
	}
	// Three regions become one, so that there is room for two more.
	joined := treeOf(t, append(row(9), heap(40, 3), data(43, 3), heap(46, 3))...)
	if got, e := expect(t, joined, protectAction(43, 3, 3)); e != api.OK || Count(got) != 10 {
		t.Errorf("joined to %d, %d", Count(got), e)
	}
	if got, e := expect(t, joined, protectAction(44, 5, 3)); e != api.OK || Count(got) != 12 {
		t.Errorf("moved the border: %d, %d", Count(got), e)
	}
}

// P23.3 to P23.5: what becomes of a stack that is divided.
func TestStacks(t *testing.T) {
	high := func(r api.Region) api.Region {
		r.Prot = 1
		return r
	}
	alone := treeOf(t, stack(20, 6))
	followed := treeOf(t, stack(20, 6), heap(26, 3))
	readable := treeOf(t, stack(20, 6), data(26, 3))
	for _, x := range []struct {
		tree api.RegionTree
		a    action
		want []api.Region
	}{
		{alone, unmapAction(20, 2), []api.Region{heap(22, 4)}},
		{alone, unmapAction(24, 2), []api.Region{stack(20, 4)}},
		{alone, unmapAction(22, 1), []api.Region{stack(20, 2), heap(23, 3)}},
		{alone, unmapAction(0, 20), []api.Region{stack(20, 6)}},
		{alone, unmapAction(0, 512), nil},
		{followed, unmapAction(20, 1), []api.Region{heap(21, 8)}},
		{followed, unmapAction(22, 1), []api.Region{stack(20, 2), heap(23, 6)}},
		{followed, unmapAction(26, 1), []api.Region{stack(20, 6), heap(27, 2)}},
		{alone, protectAction(22, 2, 1), []api.Region{stack(20, 2), data(22, 2), heap(24, 2)}},
		{alone, protectAction(20, 2, 1), []api.Region{high(stack(20, 2)), heap(22, 4)}},
		{alone, protectAction(24, 2, 1), []api.Region{stack(20, 4), data(24, 2)}},
		{alone, protectAction(20, 6, 1), []api.Region{high(stack(20, 6))}},
		{alone, protectAction(22, 2, 3), []api.Region{stack(20, 6)}},
		{readable, protectAction(23, 6, 3), []api.Region{stack(20, 6), heap(26, 3)}},
		{readable, protectAction(23, 4, 1), []api.Region{stack(20, 3), data(23, 6)}},
		{followed, protectAction(20, 2, 1), []api.Region{high(stack(20, 2)), heap(22, 7)}},
		{alone, lockAction(22, 2, true), []api.Region{stack(20, 2), pinned(heap(22, 2)), heap(24, 2)}},
		{alone, lockAction(20, 2, true), []api.Region{pinned(stack(20, 2)), heap(22, 4)}},
		{alone, lockAction(22, 2, false), []api.Region{stack(20, 6)}},
		{followed, lockAction(24, 5, true), []api.Region{stack(20, 4), pinned(heap(24, 5))}},
		{alone, growAction(alone, 0), []api.Region{stack(0, 26)}},
		{alone, growAction(alone, 19), []api.Region{stack(19, 7)}},
		{followed, growAction(followed, 10), []api.Region{stack(10, 16), heap(26, 3)}},
	} {
		got, e := expectConsequences(t, x.tree, x.a)
		if e != api.OK || !slices.Equal(rangetree.List(got), x.want) {
			t.Errorf("%s of %v = %v, %d, want %v", x.a.what, rangetree.List(x.tree), rangetree.List(got), e, x.want)
		}
	}
}

// P23.5: which regions grow, and down to which pages.
func TestGrow(t *testing.T) {
	wide := stack(30, 2)
	wide.Flags |= api.FlagLocked | api.FlagHuge
	tree := treeOf(t, heap(4, 2), stack(20, 2), wide, data(40, 1), stack(41, 1), stack(500, 12))
	for _, x := range []struct{ page, e int }{
		{-1, api.ErrRange}, {512, api.ErrRange}, {math.MinInt, api.ErrRange}, {math.MaxInt, api.ErrRange},
		{4, api.ErrExist}, {5, api.ErrExist}, {20, api.ErrExist}, {21, api.ErrExist}, {511, api.ErrExist},
		{0, api.ErrFault}, {3, api.ErrFault}, {6, api.ErrFault}, {7, api.OK}, {19, api.OK},
		{22, api.ErrFault}, {23, api.OK}, {29, api.OK}, {32, api.ErrFault}, {33, api.ErrFault}, {39, api.ErrFault},
		{40, api.ErrExist}, {41, api.ErrExist}, {42, api.ErrFault}, {43, api.OK}, {499, api.OK},
	} {
		if _, e := expectConsequences(t, tree, growAction(tree, x.page)); e != x.e {
			t.Errorf("Grow(%d) has the error %d, want %d", x.page, e, x.e)
		}
	}
	got, _ := Grow(tree, 25)
	if r, ok := Find(got, 25); !ok || r.Flags != wide.Flags || r.Start != 25 || r.Pages != 7 {
		t.Errorf("Grow(25) makes %v", r)
	}
	for _, none := range []api.RegionTree{{}, treeOf(t, stack(0, 5)), treeOf(t, heap(300, 5))} {
		if _, e := expect(t, none, growAction(none, 200)); e != api.ErrFault {
			t.Errorf("Grow of %v has the error %d", rangetree.List(none), e)
		}
	}
}

// P23.2 and P23.4: what is merged with what, literally.
func TestMerging(t *testing.T) {
	other := file(8, 2, 4)
	other.File = 1
	for _, x := range []struct {
		l    []api.Region
		a    action
		want []api.Region
	}{
		{[]api.Region{heap(4, 2), heap(8, 2)}, mapAction(heap(6, 2)), []api.Region{heap(4, 6)}},
		{[]api.Region{heap(4, 2), heap(8, 2)}, mapAction(data(6, 2)), []api.Region{heap(4, 2), data(6, 2), heap(8, 2)}},
		{[]api.Region{heap(4, 2), heap(8, 2)}, mapAction(stack(6, 2)), []api.Region{heap(4, 2), stack(6, 2), heap(8, 2)}},
		{[]api.Region{heap(4, 2), data(8, 2)}, mapAction(heap(6, 2)), []api.Region{heap(4, 4), data(8, 2)}},
		{[]api.Region{file(4, 2, 0), file(8, 2, 4)}, mapAction(file(6, 2, 2)), []api.Region{file(4, 6, 0)}},
		{[]api.Region{file(4, 2, 0), file(8, 2, 4)}, mapAction(file(6, 2, 3)), []api.Region{file(4, 2, 0), file(6, 2, 3), file(8, 2, 4)}},
		{[]api.Region{file(4, 2, 0), other}, mapAction(file(6, 2, 2)), []api.Region{file(4, 4, 0), other}},
		{[]api.Region{heap(4, 2)}, mapAction(pinned(heap(6, 2))), []api.Region{heap(4, 2), pinned(heap(6, 2))}},
		{[]api.Region{heap(4, 2), pinned(heap(6, 2)), heap(8, 2)}, lockAction(5, 4, false), []api.Region{heap(4, 6)}},
		{[]api.Region{heap(4, 2), pinned(heap(6, 2)), heap(8, 2)}, lockAction(5, 4, true), []api.Region{heap(4, 1), pinned(heap(5, 4)), heap(9, 1)}},
		{[]api.Region{heap(4, 2), data(6, 2)}, protectAction(5, 2, 1), []api.Region{heap(4, 1), data(5, 3)}},
		{[]api.Region{file(4, 6, 7)}, unmapAction(6, 1), []api.Region{file(4, 2, 7), file(7, 3, 10)}},
		{[]api.Region{file(4, 6, 7)}, protectAction(6, 1, 1), []api.Region{file(4, 6, 7)}},
	} {
		got, e := expectConsequences(t, treeOf(t, x.l...), x.a)
		if e != api.OK || !slices.Equal(rangetree.List(got), x.want) {
			t.Errorf("%s of %v = %v, %d, want %v", x.a.what, x.l, rangetree.List(got), e, x.want)
		}
	}
}

// P23.1: the tree is made anew, even if its regions stay.
func TestShape(t *testing.T) {
	l := row(7)
	var tree api.RegionTree
	for _, r := range slices.Backward(l) {
		tree, _ = rangetree.Insert(tree, r)
	}
	first, _ := rangetree.Insert(treeOf(t, l[1:]...), l[0])
	for _, other := range []api.RegionTree{tree, first} {
		for _, a := range []action{unmapAction(511, 1), protectAction(0, 1, 3), lockAction(2, 1, false)} {
			if got, e := a.do(other); e != api.OK || !same(got, treeOf(t, l...)) {
				t.Errorf("%s = %v, %d", a.what, got, e)
			}
		}
	}
	if same(first, treeOf(t, l...)) {
		t.Error("the shape is the same in any case")
	}
}

// P23.1 to P23.5: pages, counts and fields of all magnitudes.
func TestLimits(t *testing.T) {
	tree := treeOf(t, heap(0, 3), stack(100, 12), file(200, 4, 12), data(508, 4))
	expectLooks(t, tree, limits())
	expectLooks(t, api.RegionTree{}, limits())
	expectLooks(t, treeOf(t, heap(0, 512)), limits())
	for _, n := range limits() {
		expect(t, tree, growAction(tree, n))
		expect(t, tree, protectAction(0, 1, n))
		expect(t, tree, lockAction(n, 1, true))
		for _, m := range limits() {
			for _, a := range []action{unmapAction(n, m), protectAction(n, m, 1), protectAction(n, m, 0), lockAction(n, m, true), lockAction(n, m, false)} {
				expect(t, tree, a)
				expect(t, api.RegionTree{}, a)
			}
			for _, r := range []api.Region{heap(n, m), file(n, 2, m), file(300, n, m), {Start: 300, Pages: 1, Prot: n, Flags: m, File: -1}, {Start: 300, Pages: 1, Prot: 1, Flags: n, File: m}} {
				expect(t, tree, mapAction(r))
			}
		}
	}
}

// P23.3 and P23.4: the whole address space at once.
func TestAllPages(t *testing.T) {
	tree := treeOf(t, heap(0, 512))
	if Place(tree, 1) != -1 || Count(tree) != 1 || Place(api.RegionTree{}, 512) != 0 || Place(api.RegionTree{}, 513) != -1 {
		t.Error("a full and an empty address space")
	}
	for _, x := range []struct {
		a    action
		want []api.Region
	}{
		{protectAction(0, 512, 1), []api.Region{data(0, 512)}},
		{lockAction(0, 512, true), []api.Region{pinned(heap(0, 512))}},
		{unmapAction(0, 512), nil},
		{unmapAction(0, 511), []api.Region{heap(511, 1)}},
		{protectAction(511, 1, 1), []api.Region{heap(0, 511), data(511, 1)}},
	} {
		if got, e := expectConsequences(t, tree, x.a); e != api.OK || !slices.Equal(rangetree.List(got), x.want) {
			t.Errorf("%s = %v, %d", x.a.what, rangetree.List(got), e)
		}
	}
}

// invalid is a tree that is not a valid address space, with the error of Check.
type invalid struct {
	what string
	t    api.RegionTree
	e    int
}

// invalidTrees returns trees with each error of Check, and with a later one besides.
func invalidTrees(t *testing.T) []invalid {
	t.Helper()
	wrong, outside, late := heap(10, 2), file(20, 2, 15), heap(13, 2)
	wrong.Prot = 2
	late.Index = 1
	malformed := treeOf(t, row(14)...)
	malformed.Kids = malformed.Kids[:1]
	empty := treeOf(t, heap(0, 1), heap(1, 1), wrong)
	empty.Region.Pages = 0
	overlapping := treeOf(t, heap(0, 1), heap(1, 1), outside)
	overlapping.Kids[0].Region.Pages, overlapping.Kids[0].Last = 2, 2
	gap := treeOf(t, heap(0, 1), heap(1, 1), wrong)
	gap.Gap++
	circle := make([]api.RegionTree, 2)
	circle[1] = api.RegionTree{Height: 1, Region: heap(3, 1), Kids: circle}
	deep := api.RegionTree{}
	for range 20000 {
		deep = api.RegionTree{Height: 1, Region: heap(3, 1), Kids: []api.RegionTree{deep, {}}}
	}
	return []invalid{
		{"one kid", malformed, api.ErrForm},
		{"a height only", api.RegionTree{Height: 1}, api.ErrForm},
		{"a gap only", api.RegionTree{Gap: 1}, api.ErrForm},
		{"no pages", empty, api.ErrRange},
		{"an overlap", overlapping, api.ErrOrder},
		{"a circle", circle[1], api.ErrOrder},
		{"a deep tree", deep, api.ErrOrder},
		{"a wrong gap", gap, api.ErrState},
		{"a protection", treeOf(t, wrong), api.ErrArg},
		{"an index", treeOf(t, outside), api.ErrRange},
		{"a protection first", treeOf(t, heap(0, 1), wrong, outside), api.ErrArg},
		{"an index first", treeOf(t, file(5, 2, 15), wrong), api.ErrRange},
		{"an index behind mergeable regions", treeOf(t, heap(0, 1), heap(1, 1), late), api.ErrRange},
		{"a zero region with a page", treeOf(t, api.Region{Pages: 1}), api.ErrArg},
		{"mergeable regions", treeOf(t, heap(0, 1), heap(1, 1)), api.ErrState},
		{"the last regions mergeable", treeOf(t, heap(0, 1), data(1, 1), file(2, 1, 0), file(3, 1, 1)), api.ErrState},
		{"mergeable regions and too many", treeOf(t, append(row(13), heap(25, 1))...), api.ErrState},
		{"too many regions", treeOf(t, row(13)...), api.ErrLimit},
		{"too many regions with a wrong one", treeOf(t, append(row(13), pinned(api.Region{Start: 60, Pages: 1, Prot: 4, File: -1}))...), api.ErrArg},
		{"as many regions as pages", treeOf(t, row(256)...), api.ErrLimit},
	}
}

// P23.1 to P23.5: the error of Check comes before all others.
func TestInvalidTrees(t *testing.T) {
	for _, x := range invalidTrees(t) {
		if e := Check(x.t); e != x.e {
			t.Errorf("%s: Check = %d, want %d", x.what, e, x.e)
		}
		for _, page := range []int{-1, 0, 1, 3, 13, 40, 600} {
			if r, ok := Find(x.t, page); ok || r != (api.Region{}) {
				t.Errorf("%s: Find = %v, %t", x.what, r, ok)
			}
			if at, n := Place(x.t, page), Count(x.t); at != -1 || n != 0 {
				t.Errorf("%s: Place = %d, Count = %d", x.what, at, n)
			}
			for _, a := range []action{
				mapAction(heap(page, 1)), mapAction(heap(page, 0)), unmapAction(page, 1), unmapAction(page, 0), unmapAction(0, 512),
				protectAction(page, 1, 1), protectAction(page, 0, 7), lockAction(page, 1, true), lockAction(page, -1, false),
			} {
				if got, e := a.do(x.t); e != x.e || !same(got, api.RegionTree{}) {
					t.Errorf("%s: %s = %v, %d, want %d", x.what, a.what, got, e, x.e)
				}
			}
			if got, e := Grow(x.t, page); e != x.e || !same(got, api.RegionTree{}) {
				t.Errorf("%s: Grow(%d) = %v, %d, want %d", x.what, page, got, e, x.e)
			}
		}
	}
}

// P23.2 to P23.4: which error comes first.
func TestFirstError(t *testing.T) {
	tree := treeOf(t, append(row(11), heap(40, 3))...)
	wrong, outside := heap(40, 1), heap(40, 1)
	wrong.Prot = 0
	outside.Index = 5
	for _, x := range []struct {
		a    action
		want int
	}{
		{mapAction(wrong), api.ErrArg},
		{mapAction(outside), api.ErrRange},
		{mapAction(heap(511, 2)), api.ErrRange},
		{mapAction(heap(39, 2)), api.ErrExist},
		{mapAction(heap(60, 1)), api.ErrLimit},
		{unmapAction(-1, 0), api.ErrArg},
		{unmapAction(512, math.MinInt), api.ErrArg},
		{unmapAction(-1, 1), api.ErrRange},
		{unmapAction(41, 472), api.ErrRange},
		{unmapAction(41, 471), api.OK},
		{unmapAction(512, 1), api.ErrRange},
		{unmapAction(math.MaxInt, math.MaxInt), api.ErrRange},
		{unmapAction(41, 1), api.ErrLimit},
		{protectAction(-1, 0, 7), api.ErrArg},
		{protectAction(-1, 1, 7), api.ErrRange},
		{protectAction(300, 213, 7), api.ErrRange},
		{protectAction(300, 1, 7), api.ErrArg},
		{protectAction(41, 1, 0), api.ErrArg},
		{protectAction(41, 1, 2), api.ErrArg},
		{protectAction(41, 1, 5), api.ErrArg},
		{protectAction(300, 212, 1), api.ErrFault},
		{protectAction(41, 3, 1), api.ErrFault},
		{protectAction(41, 1, 1), api.ErrLimit},
		{protectAction(41, 1, 3), api.OK},
		{lockAction(-1, 0, true), api.ErrArg},
		{lockAction(-1, 1, true), api.ErrRange},
		{lockAction(300, 213, false), api.ErrRange},
		{lockAction(300, 212, false), api.ErrFault},
		{lockAction(41, 3, true), api.ErrFault},
		{lockAction(39, 2, false), api.ErrFault},
		{lockAction(41, 1, true), api.ErrLimit},
		{lockAction(41, 1, false), api.OK},
	} {
		got, e := expect(t, tree, x.a)
		if e != x.want || e != api.OK && !same(got, api.RegionTree{}) {
			t.Errorf("%s = %v, %d, want %d", x.a.what, got, e, x.want)
		}
	}
}

// spare returns a tree whose lists have spare capacity, with a mark in it.
func spare(t api.RegionTree) api.RegionTree {
	kids := make([]api.RegionTree, 0, 3)
	for _, kid := range t.Kids {
		kids = append(kids, spare(kid))
	}
	t.Kids = kids
	kids[:3][2].Gap = 91
	return t
}

// isUntouched reports whether the marks are as spare made them.
func isUntouched(t api.RegionTree) bool {
	return t.Kids[:3][2].Gap == 91 && !slices.ContainsFunc(t.Kids, func(kid api.RegionTree) bool { return !isUntouched(kid) })
}

// overwrite changes all trees inside of t, and the spare capacity of their lists.
func overwrite(t api.RegionTree) {
	for _, kid := range t.Kids {
		overwrite(kid)
	}
	all := t.Kids[:cap(t.Kids)]
	for i := range all {
		all[i] = api.RegionTree{Height: 99}
	}
}

// copied returns a copy that shares no memory with t.
func copied(t api.RegionTree) api.RegionTree {
	t.Kids = slices.Clone(t.Kids)
	for i, kid := range t.Kids {
		t.Kids[i] = copied(kid)
	}
	return t
}

// P23.6, and the rule 'Values'.
func TestArgumentsStay(t *testing.T) {
	base := treeOf(t, heap(0, 2), data(2, 2), stack(20, 6), heap(26, 2), file(40, 5, 3), pinned(data(60, 1)))
	for page := -1; page < 62; page++ {
		for _, a := range []action{
			mapAction(heap(page, 1)), mapAction(data(page, 3)), unmapAction(page, 1), unmapAction(page, 30), unmapAction(page, 512),
			protectAction(page, 1, 1), protectAction(page, 2, 3), lockAction(page, 1, true), lockAction(page, 1, false), growAction(base, page),
		} {
			argument := spare(base)
			got, _ := a.do(argument)
			expectLooks(t, argument, []int{page})
			if !same(argument, base) || !isUntouched(argument) {
				t.Fatalf("%s: the argument has changed", a.what)
			}
			want := copied(got)
			overwrite(argument)
			if !same(got, want) {
				t.Fatalf("%s: the result changes with the argument", a.what)
			}
			argument = spare(base)
			got, _ = a.do(argument)
			overwrite(got)
			if !same(argument, base) || !isUntouched(argument) {
				t.Fatalf("%s: the argument changes with the result", a.what)
			}
		}
	}
}

// The examples of the chapter.
func TestExamples(t *testing.T) {
	var tree api.RegionTree
	for _, x := range []struct {
		a    action
		want []api.Region
	}{
		{mapAction(heap(4, 4)), []api.Region{heap(4, 4)}},
		{mapAction(heap(8, 2)), []api.Region{heap(4, 6)}},
		{protectAction(5, 2, 1), []api.Region{heap(4, 1), data(5, 2), heap(7, 3)}},
		{protectAction(5, 2, 3), []api.Region{heap(4, 6)}},
		{unmapAction(0, 5), []api.Region{heap(5, 5)}},
	} {
		got, e := expectConsequences(t, tree, x.a)
		if e != api.OK || !slices.Equal(rangetree.List(got), x.want) {
			t.Fatalf("%s = %v, %d", x.a.what, rangetree.List(got), e)
		}
		tree = got
	}
	if _, e := Protect(tree, 4, 2, 1); e != api.ErrFault {
		t.Errorf("Protect of a page without a region has the error %d", e)
	}
	if low, high := Place(tree, 3), Place(tree, 6); low != 0 || high != 10 {
		t.Errorf("Place = %d and %d", low, high)
	}
	tree, _ = Map(tree, stack(20, 2))
	got, e := Grow(tree, 18)
	if r, ok := Find(got, 18); e != api.OK || !ok || r != stack(18, 4) {
		t.Errorf("Grow(18) makes %v, %d", r, e)
	}
	if _, e := Grow(tree, 10); e != api.ErrFault {
		t.Errorf("Grow(10) has the error %d", e)
	}
	got, e = Grow(tree, 11)
	if r, ok := Find(got, 21); e != api.OK || !ok || r != stack(11, 11) {
		t.Errorf("Grow(11) makes %v, %d", r, e)
	}
}
