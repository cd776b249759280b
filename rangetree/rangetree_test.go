package rangetree

import (
	"math"
	"math/rand"
	"reflect"
	"slices"
	"testing"

	"estovers/api"
)

// model is a tree without numbers, for a direct reading of the definitions; nil is the empty tree.
type model struct {
	l *model
	x api.Region
	r *model
}

func (m *model) height() int {
	if m == nil {
		return 0
	}
	return 1 + max(m.l.height(), m.r.height())
}

func (m *model) regions() []api.Region {
	if m == nil {
		return nil
	}
	return slices.Concat(m.l.regions(), []api.Region{m.x}, m.r.regions())
}

// tree returns the tree with the numbers as they follow from the list of the regions.
func (m *model) tree() api.RegionTree {
	if m == nil {
		return api.RegionTree{}
	}
	all := m.regions()
	last := all[len(all)-1]
	t := api.RegionTree{Height: m.height(), First: all[0].Start, Last: last.Start + last.Pages, Region: m.x}
	for n := 1; n < len(all); n++ {
		t.Gap = max(t.Gap, all[n].Start-all[n-1].Start-all[n-1].Pages)
	}
	t.Kids = []api.RegionTree{m.l.tree(), m.r.tree()}
	return t
}

// balance is Balanced of the chapter.
func balance(l *model, x api.Region, r *model) *model {
	if l.height() > r.height()+1 {
		a, y, b := l.l, l.x, l.r
		if a.height() >= b.height() {
			return &model{a, y, &model{b, x, r}}
		}
		c, z, d := b.l, b.x, b.r
		return &model{&model{a, y, c}, z, &model{d, x, r}}
	}
	if r.height() > l.height()+1 {
		b, y, c := r.l, r.x, r.r
		if c.height() >= b.height() {
			return &model{&model{l, x, b}, y, c}
		}
		d, z, e := b.l, b.x, b.r
		return &model{&model{l, x, d}, z, &model{e, y, c}}
	}
	return &model{l, x, r}
}

func (m *model) insert(r api.Region) *model {
	switch {
	case m == nil:
		return &model{nil, r, nil}
	case r.Start < m.x.Start:
		return balance(m.l.insert(r), m.x, m.r)
	}
	return balance(m.l, m.x, m.r.insert(r))
}

func (m *model) without(start int) *model {
	switch {
	case start < m.x.Start:
		return balance(m.l.without(start), m.x, m.r)
	case start > m.x.Start:
		return balance(m.l, m.x, m.r.without(start))
	case m.l == nil:
		return m.r
	case m.r == nil:
		return m.l
	}
	first := m.r.regions()[0]
	return balance(m.l, first, m.r.without(first.Start))
}

// pages returns a region of pages, with other fields that tell it from others.
func pages(start, count int) api.Region {
	return api.Region{Start: start, Pages: count, Prot: start + 1, Flags: -count, File: 7 * start, Index: math.MaxInt - start}
}

// regionsOf returns the regions with these starts and numbers of pages.
func regionsOf(numbers ...int) []api.Region {
	var l []api.Region
	for n := 0; n+1 < len(numbers); n += 2 {
		l = append(l, pages(numbers[n], numbers[n+1]))
	}
	return l
}

// grown returns the tree that results from inserting regions in any order.
func grown(t *testing.T, l []api.Region) api.RegionTree {
	t.Helper()
	var tree api.RegionTree
	for _, r := range l {
		var e int
		if tree, e = Insert(tree, r); e != api.OK {
			t.Fatalf("Insert of %v: %d", r, e)
		}
	}
	return tree
}

// same reports whether two trees are equal, where nil and empty lists of kids are.
func same(a, b api.RegionTree) bool {
	if len(a.Kids) != len(b.Kids) {
		return false
	}
	for n := range a.Kids {
		if !same(a.Kids[n], b.Kids[n]) {
			return false
		}
	}
	a.Kids, b.Kids = nil, nil
	return reflect.DeepEqual(a, b)
}

func expect(t *testing.T, what string, got api.RegionTree, e int, want api.RegionTree) {
	t.Helper()
	if e != api.OK || !same(got, want) {
		t.Fatalf("%s: got %v, %d, want %v", what, got, e, want)
	}
}

func refuse(t *testing.T, what string, got api.RegionTree, e, want int) {
	t.Helper()
	if e != want || !same(got, api.RegionTree{}) {
		t.Errorf("%s: got %v, %d, want the error %d", what, got, e, want)
	}
}

// copied returns a copy without common memory, of a tree of any form.
func copied(t api.RegionTree) api.RegionTree {
	t.Kids = slices.Clone(t.Kids)
	for n := range t.Kids {
		t.Kids[n] = copied(t.Kids[n])
	}
	return t
}

// permutations calls f with each order of the numbers 0 to n-1.
func permutations(n int, f func([]int)) {
	order := make([]int, n)
	for i := range order {
		order[i] = i
	}
	var extend func(int)
	extend = func(k int) {
		if k == n {
			f(order)
		}
		for i := k; i < n; i++ {
			order[k], order[i] = order[i], order[k]
			extend(k + 1)
			order[k], order[i] = order[i], order[k]
		}
	}
	extend(0)
}

// invalid is a tree that is not valid, with the error of Check.
type invalid struct {
	what string
	t    api.RegionTree
	e    int
}

func invalidTrees(t *testing.T) []invalid {
	var out []invalid
	base := grown(t, regionsOf(2, 2, 6, 1, 10, 3, 20, 5, 30, 1, 40, 2))
	// The root is at 20, its right kid at 30, and the right kid of that at 40.
	add := func(what string, e int, change func(root, right, leaf *api.RegionTree)) {
		c := copied(base)
		right := &c.Kids[1]
		change(&c, right, &right.Kids[1])
		out = append(out, invalid{what, c, e})
	}
	type node = api.RegionTree
	add("Height 0", api.ErrForm, func(_, _, leaf *node) { leaf.Height = 0 })
	add("an empty tree with First", api.ErrForm, func(_, _, leaf *node) { leaf.Kids[0].First = 1 })
	add("an empty tree with Last", api.ErrForm, func(_, _, leaf *node) { leaf.Kids[1].Last = -1 })
	add("an empty tree with Gap", api.ErrForm, func(_, _, leaf *node) { leaf.Kids[0].Gap = 1 })
	add("an empty tree with Start", api.ErrForm, func(_, _, leaf *node) { leaf.Kids[0].Region.Start = 1 })
	add("an empty tree with Index", api.ErrForm, func(_, _, leaf *node) { leaf.Kids[1].Region.Index = 1 })
	add("an empty tree with kids", api.ErrForm, func(_, _, leaf *node) { leaf.Kids[1].Kids = make([]node, 2) })
	add("no kids", api.ErrForm, func(_, _, leaf *node) { leaf.Kids = nil })
	add("one kid", api.ErrForm, func(_, right, _ *node) { right.Kids = right.Kids[:1] })
	add("three kids", api.ErrForm, func(root, _, _ *node) { root.Kids = append(root.Kids, node{}) })
	add("a negative Height without kids", api.ErrForm, func(_, _, leaf *node) { *leaf = node{Height: -1} })
	add("the last form, after all other errors", api.ErrForm, func(root, right, leaf *node) {
		root.Region.Pages, right.Region.Start, root.Gap = 0, 1, 77
		leaf.Kids = nil
	})
	add("the first form, after all other errors", api.ErrForm, func(root, right, _ *node) {
		right.Region.Pages, right.Height, root.Gap = 0, 9, 77
		root.Kids[0].Kids[0].Kids[0].Last = 2
	})
	add("no pages", api.ErrRange, func(_, _, leaf *node) { leaf.Region.Pages = 0 })
	add("a negative number of pages", api.ErrRange, func(_, right, _ *node) { right.Region.Pages = math.MinInt })
	add("a negative start", api.ErrRange, func(root, _, _ *node) { root.Region.Start = -1 })
	add("a page too many", api.ErrRange, func(_, _, leaf *node) { leaf.Region.Pages = api.Pages - leaf.Region.Start + 1 })
	add("a huge region", api.ErrRange, func(_, _, leaf *node) { leaf.Region.Pages = math.MaxInt })
	add("a huge start", api.ErrRange, func(_, _, leaf *node) { leaf.Region.Start = math.MaxInt })
	add("the last region, after wrong order and numbers", api.ErrRange, func(root, right, leaf *node) {
		root.Region.Start, right.Height = 0, 1
		leaf.Region.Pages = 0
	})
	add("a root that begins too early", api.ErrOrder, func(root, _, _ *node) { root.Region.Start = 6 })
	add("a root that ends too late", api.ErrOrder, func(root, _, _ *node) { root.Region.Pages = 11 })
	add("two regions at one start", api.ErrOrder, func(_, right, leaf *node) { leaf.Region = right.Region })
	add("regions that go down", api.ErrOrder, func(_, right, leaf *node) {
		leaf.Region, right.Region = right.Region, leaf.Region
		right.Height = 5
	})
	add("a right kid that begins too early", api.ErrOrder, func(_, right, _ *node) { right.Region.Start, right.First = 24, 24 })
	add("a right kid that touches the root", api.ErrState, func(_, right, _ *node) { right.Region.Start, right.First = 25, 25 })
	add("a height that is too great", api.ErrState, func(_, _, leaf *node) { leaf.Height = 2 })
	add("a negative height", api.ErrState, func(_, _, leaf *node) { leaf.Height = -1 })
	add("a height of the root", api.ErrState, func(root, _, _ *node) { root.Height++ })
	add("First", api.ErrState, func(root, _, _ *node) { root.First++ })
	add("First of a kid", api.ErrState, func(_, right, _ *node) { right.First-- })
	add("Last", api.ErrState, func(root, _, _ *node) { root.Last-- })
	add("Last of a leaf", api.ErrState, func(_, _, leaf *node) { leaf.Last++ })
	add("Gap", api.ErrState, func(root, _, _ *node) { root.Gap++ })
	add("Gap of a kid", api.ErrState, func(_, right, _ *node) { right.Gap = 0 })
	add("Gap of a leaf", api.ErrState, func(_, _, leaf *node) { leaf.Gap = 1 })
	add("a region that moved", api.ErrState, func(_, right, _ *node) { right.Region.Start++ })
	out = append(out, invalid{"only a Height", node{Height: 1}, api.ErrForm})
	out = append(out, invalid{"only a Gap", node{Gap: 1}, api.ErrForm})
	out = append(out, invalid{"kids of an empty tree", node{Kids: make([]node, 2)}, api.ErrForm})
	out = append(out, invalid{"a zero region", node{Height: 1, Kids: make([]node, 2)}, api.ErrRange})
	chain := &model{nil, pages(1, 1), &model{nil, pages(2, 1), &model{nil, pages(3, 1), nil}}}
	out = append(out, invalid{"a chain to the right", chain.tree(), api.ErrState})
	chain = &model{&model{&model{nil, pages(1, 1), nil}, pages(2, 1), nil}, pages(3, 1), nil}
	out = append(out, invalid{"a chain to the left", chain.tree(), api.ErrState})
	high := &model{nil, pages(5, 1), &model{&model{nil, pages(6, 1), nil}, pages(7, 1), nil}}
	out = append(out, invalid{"a bent chain", high.tree(), api.ErrState})
	low := &model{high, pages(9, 1), &model{nil, pages(11, 1), nil}}
	out = append(out, invalid{"a kid that is not balanced", low.tree(), api.ErrState})
	return out
}

// P3.1
func TestCheck(t *testing.T) {
	for _, tree := range []api.RegionTree{{}, {Kids: []api.RegionTree{}}, grown(t, regionsOf(0, 1)), grown(t, regionsOf(0, 512)), grown(t, regionsOf(511, 1)), grown(t, regionsOf(5, 2, 3, 2, 9, 1)), grown(t, regionsOf(1, 1, 2, 1))} {
		if e := Check(tree); e != api.OK {
			t.Errorf("Check(%v) = %d", tree, e)
		}
	}
	for _, c := range invalidTrees(t) {
		if e := Check(c.t); e != c.e {
			t.Errorf("%s: Check(%v) = %d, want %d", c.what, c.t, e, c.e)
		}
	}
}

// P3.1, for trees that are deeper than any valid one.
func TestCheckDeep(t *testing.T) {
	for _, side := range []int{0, 1} {
		var tree api.RegionTree
		for n := range 300000 {
			kids := make([]api.RegionTree, 2)
			kids[side] = tree
			tree = api.RegionTree{Height: 1, Region: pages(n%api.Pages, 1), Kids: kids}
		}
		if e := Check(tree); e != api.ErrOrder {
			t.Errorf("a deep tree: %d", e)
		}
		bottom := &tree
		for len(bottom.Kids) > 0 {
			bottom = &bottom.Kids[side]
		}
		bottom.Region.Pages = 1
		if e := Check(tree); e != api.ErrForm {
			t.Errorf("a deep tree that ends badly: %d", e)
		}
	}
	// All regions in order, but in a chain.
	for _, side := range []int{0, 1} {
		var tree api.RegionTree
		for n := range api.Pages {
			kids := make([]api.RegionTree, 2)
			kids[side] = tree
			start := n
			if side == 1 {
				start = api.Pages - 1 - n
			}
			tree = api.RegionTree{Height: n + 1, Region: pages(start, 1), Kids: kids}
		}
		if e := Check(tree); e != api.ErrState {
			t.Errorf("a chain of all pages: %d", e)
		}
	}
}

// P3.1, for trees that contain themselves.
func TestCheckCircle(t *testing.T) {
	for _, side := range []int{0, 1} {
		kids := make([]api.RegionTree, 2)
		kids[side] = api.RegionTree{Height: 1, Region: pages(3, 1), Kids: kids}
		tree := api.RegionTree{Height: 2, Region: pages(4, 1), Kids: kids}
		if e := Check(tree); e != api.ErrOrder {
			t.Errorf("a circle: %d", e)
		}
		kids[1-side] = api.RegionTree{Height: 1, Kids: make([]api.RegionTree, 2)}
		if e := Check(tree); e != api.ErrRange {
			t.Errorf("a circle with a region that is not valid: %d", e)
		}
		kids[1-side] = api.RegionTree{Last: 1}
		if e := Check(tree); e != api.ErrForm {
			t.Errorf("a circle with a tree of a wrong form: %d", e)
		}
	}
	both := make([]api.RegionTree, 2)
	both[0] = api.RegionTree{Height: 1, Region: pages(3, 1), Kids: both}
	both[1] = both[0]
	if e := Check(both[0]); e != api.ErrOrder {
		t.Errorf("a double circle: %d", e)
	}
}

// P3.2 and P3.3, with all orders of up to 7 regions.
func TestAllOrders(t *testing.T) {
	all := regionsOf(1, 2, 4, 1, 5, 5, 20, 1, 24, 3, 30, 20, 100, 1)
	for n := 0; n <= len(all); n++ {
		permutations(n, func(order []int) {
			var tree api.RegionTree
			var m *model
			for _, k := range order {
				var e int
				tree, e = Insert(tree, all[k])
				m = m.insert(all[k])
				expect(t, "Insert", tree, e, m.tree())
			}
			if e := Check(tree); e != api.OK {
				t.Fatalf("Check(%v) = %d", tree, e)
			}
			for k := range n {
				out, e := Delete(tree, all[k].Start)
				expect(t, "Delete", out, e, m.without(all[k].Start).tree())
			}
		})
	}
}

// P3.2 to P3.4 and P3.7, with long sequences.
func TestSequences(t *testing.T) {
	random := rand.New(rand.NewSource(1))
	for range 20 {
		var tree api.RegionTree
		var m *model
		width := 1 + random.Intn(8)
		for step := range 400 {
			start := random.Intn(api.Pages)
			if step%200 < 120 {
				r := pages(start, 1+random.Intn(width))
				out, e := Insert(tree, r)
				switch {
				case r.Start+r.Pages > api.Pages:
					refuse(t, "Insert", out, e, api.ErrRange)
				case slices.ContainsFunc(m.regions(), func(x api.Region) bool { return x.Start < r.Start+r.Pages && r.Start < x.Start+x.Pages }):
					refuse(t, "Insert", out, e, api.ErrExist)
				default:
					m = m.insert(r)
					expect(t, "Insert", out, e, m.tree())
					tree = out
				}
			} else if l := m.regions(); len(l) > 0 {
				start = l[random.Intn(len(l))].Start
				m = m.without(start)
				out, e := Delete(tree, start)
				expect(t, "Delete", out, e, m.tree())
				tree = out
			}
			if e := Check(tree); e != api.OK || !slices.Equal(List(tree), m.regions()) {
				t.Fatalf("Check(%v) = %d", tree, e)
			}
		}
	}
}

// P3.2
func TestInsert(t *testing.T) {
	tree := grown(t, regionsOf(2, 2, 6, 1, 10, 3))
	for start := -2; start < 16; start++ {
		for count := -1; count < 16; count++ {
			r := pages(start, count)
			out, e := Insert(tree, r)
			overlaps := false
			for p := start; p < start+count; p++ {
				overlaps = overlaps || slices.Contains([]int{2, 3, 6, 10, 11, 12}, p)
			}
			switch {
			case start < 0 || count < 1:
				refuse(t, "Insert", out, e, api.ErrRange)
			case overlaps:
				refuse(t, "Insert", out, e, api.ErrExist)
			default:
				want := append(List(tree), r)
				slices.SortFunc(want, func(a, b api.Region) int { return a.Start - b.Start })
				if e != api.OK || !slices.Equal(List(out), want) {
					t.Errorf("Insert of %v: %v, %d", r, out, e)
				}
			}
		}
	}
	for _, r := range []api.Region{pages(500, 12), pages(511, 1), pages(13, 499)} {
		if out, e := Insert(tree, r); e != api.OK || !slices.Contains(List(out), r) {
			t.Errorf("Insert of %v: %v, %d", r, out, e)
		}
	}
	for _, r := range []api.Region{{}, pages(500, 13), pages(512, 1), pages(0, 513), pages(1, math.MaxInt), pages(math.MaxInt, math.MaxInt), pages(math.MinInt, 1), pages(1, math.MinInt), pages(math.MaxInt, 1), pages(2, 511)} {
		out, e := Insert(tree, r)
		refuse(t, "Insert", out, e, api.ErrRange)
	}
	for _, c := range invalidTrees(t) {
		out, e := Insert(c.t, pages(300, 1))
		refuse(t, "Insert into an invalid tree", out, e, c.e)
		out, e = Insert(c.t, pages(-1, 0))
		refuse(t, "Insert of an invalid region into an invalid tree", out, e, c.e)
	}
}

// P3.3
func TestDelete(t *testing.T) {
	tree := grown(t, regionsOf(2, 2, 6, 1, 10, 3))
	for start := -2; start < 16; start++ {
		out, e := Delete(tree, start)
		if !slices.Contains([]int{2, 6, 10}, start) {
			refuse(t, "Delete", out, e, api.ErrNone)
			continue
		}
		want := slices.DeleteFunc(List(tree), func(r api.Region) bool { return r.Start == start })
		if e != api.OK || !slices.Equal(List(out), want) {
			t.Errorf("Delete of %d: %v, %d", start, out, e)
		}
	}
	for _, start := range []int{math.MinInt, math.MaxInt, api.Pages} {
		out, e := Delete(tree, start)
		refuse(t, "Delete", out, e, api.ErrNone)
	}
	out, e := Delete(api.RegionTree{}, 0)
	refuse(t, "Delete of an empty tree", out, e, api.ErrNone)
	out, e = Delete(grown(t, regionsOf(7, 1)), 7)
	expect(t, "Delete of the only region", out, e, api.RegionTree{})
	for _, c := range invalidTrees(t) {
		out, e = Delete(c.t, 2)
		refuse(t, "Delete from an invalid tree", out, e, c.e)
		out, e = Delete(c.t, 3)
		refuse(t, "Delete of no region from an invalid tree", out, e, c.e)
	}
}

// P3.4
func TestFindNextList(t *testing.T) {
	random := rand.New(rand.NewSource(2))
	for range 60 {
		var l []api.Region
		for at := random.Intn(5); at < 60; at += random.Intn(4) {
			count := min(1+random.Intn(4), 64-at)
			l = append(l, pages(at, count))
			at += count
		}
		shuffled := slices.Clone(l)
		random.Shuffle(len(l), func(i, j int) { shuffled[i], shuffled[j] = shuffled[j], shuffled[i] })
		tree := grown(t, shuffled[:random.Intn(len(l)+1)])
		all := List(tree)
		for page := -2; page < 70; page++ {
			var found, following api.Region
			for _, r := range slices.Backward(all) {
				if r.Start+r.Pages > page {
					following = r
				}
				if r.Start <= page && page < r.Start+r.Pages {
					found = r
				}
			}
			if r, ok := Find(tree, page); r != found || ok != (found.Pages > 0) {
				t.Fatalf("Find(%v, %d) = %v, %v", tree, page, r, ok)
			}
			if r, ok := Next(tree, page); r != following || ok != (following.Pages > 0) {
				t.Fatalf("Next(%v, %d) = %v, %v", tree, page, r, ok)
			}
		}
	}
	tree := grown(t, regionsOf(2, 2, 6, 1))
	if r, ok := Next(tree, math.MinInt); r != pages(2, 2) || !ok {
		t.Error("Next of the least int")
	}
	for _, page := range []int{math.MinInt, math.MaxInt} {
		if r, ok := Find(tree, page); ok || r != (api.Region{}) {
			t.Errorf("Find(%d)", page)
		}
	}
	if r, ok := Next(tree, math.MaxInt); ok || r != (api.Region{}) {
		t.Error("Next of the greatest int")
	}
	if len(List(api.RegionTree{})) != 0 {
		t.Error("List of an empty tree")
	}
}

// P3.4 and P3.6, for trees that are not valid.
func TestSearchInvalid(t *testing.T) {
	for _, c := range invalidTrees(t) {
		for page := -1; page < 50; page++ {
			if r, ok := Find(c.t, page); ok || r != (api.Region{}) {
				t.Errorf("%s: Find(%d) = %v", c.what, page, r)
			}
			if r, ok := Next(c.t, page); ok || r != (api.Region{}) {
				t.Errorf("%s: Next(%d) = %v", c.what, page, r)
			}
		}
		if l := List(c.t); len(l) != 0 {
			t.Errorf("%s: List = %v", c.what, l)
		}
		if s := Gap(c.t, 100, 200, 1); s != -1 {
			t.Errorf("%s: Gap = %d", c.what, s)
		}
	}
}

// P3.5
func TestBuild(t *testing.T) {
	for n := range 65 {
		var l []api.Region
		var m *model
		for k := range n {
			l = append(l, pages(4*k+k%2, 1+k%3))
			m = m.insert(l[k])
		}
		tree, e := Build(l)
		expect(t, "Build", tree, e, m.tree())
	}
	var l []api.Region
	for k := range api.Pages {
		l = append(l, pages(k, 1))
	}
	if tree, e := Build(l); e != api.OK || Check(tree) != api.OK || !slices.Equal(List(tree), l) || tree.Gap != 0 {
		t.Errorf("Build of all pages: %d", e)
	}
	tree, e := Build([]api.Region{})
	expect(t, "Build of nothing", tree, e, api.RegionTree{})
	for _, c := range []struct {
		l []api.Region
		e int
	}{
		{regionsOf(1, 0), api.ErrRange},
		{regionsOf(-1, 1), api.ErrRange},
		{regionsOf(512, 1), api.ErrRange},
		{regionsOf(0, math.MaxInt, 3, 1), api.ErrRange},
		{regionsOf(5, 1, 4, 1, 9, 0), api.ErrRange},
		{regionsOf(5, 2, 6, 1), api.ErrOrder},
		{regionsOf(5, 2, 5, 2), api.ErrOrder},
		{regionsOf(5, 2, 3, 1), api.ErrOrder},
		{regionsOf(1, 1, 5, 2, 3, 1), api.ErrOrder},
		{regionsOf(1, 1, 3, 1, 10, 100, 109, 1), api.ErrOrder},
	} {
		tree, e := Build(c.l)
		refuse(t, "Build", tree, e, c.e)
	}
}

// lowest is a direct reading of P3.6.
func lowest(all []api.Region, lo, hi, count int) int {
	for s := lo; s <= hi-count; s++ {
		free := true
		for _, r := range all {
			free = free && (s+count <= r.Start || r.Start+r.Pages <= s)
		}
		if free {
			return s
		}
	}
	return -1
}

// P3.6
func TestGap(t *testing.T) {
	random := rand.New(rand.NewSource(3))
	for range 40 {
		var l []api.Region
		for at := random.Intn(8); at < 36; at += random.Intn(7) {
			count := 1 + random.Intn(4)
			l = append(l, pages(at, count))
			at += count
		}
		random.Shuffle(len(l), func(i, j int) { l[i], l[j] = l[j], l[i] })
		tree := grown(t, l)
		for lo := range 44 {
			for hi := lo; hi < 44; hi++ {
				for count := 1; count < 9; count++ {
					if s, want := Gap(tree, lo, hi, count), lowest(l, lo, hi, count); s != want {
						t.Fatalf("Gap(%v, %d, %d, %d) = %d, want %d", tree, lo, hi, count, s, want)
					}
				}
			}
		}
	}
}

// P3.6
func TestGapLimits(t *testing.T) {
	tree := grown(t, regionsOf(0, 4, 508, 4))
	for _, c := range []struct{ lo, hi, count, want int }{
		{0, 512, 504, 4}, {0, 512, 505, -1}, {4, 508, 504, 4}, {4, 507, 504, -1}, {5, 512, 504, -1},
		{508, 512, 1, -1}, {0, 4, 1, -1}, {0, 5, 1, 4}, {507, 512, 1, 507}, {9, 9, 1, -1},
		{0, 513, 1, -1}, {-1, 512, 1, -1}, {9, 8, 1, -1}, {0, 512, 0, -1}, {0, 512, -1, -1},
		{0, 512, math.MaxInt, -1}, {0, 512, math.MinInt, -1}, {math.MinInt, math.MaxInt, 1, -1},
		{0, math.MaxInt, 1, -1}, {math.MinInt, 512, 1, -1}, {math.MaxInt, math.MinInt, 1, -1},
	} {
		if s := Gap(tree, c.lo, c.hi, c.count); s != c.want {
			t.Errorf("Gap(%d, %d, %d) = %d, want %d", c.lo, c.hi, c.count, s, c.want)
		}
	}
	for _, c := range []struct{ lo, hi, count, want int }{
		{0, 512, 512, 0}, {0, 512, 513, -1}, {512, 512, 1, -1}, {511, 512, 1, 511}, {7, 512, 505, 7}, {0, 0, 1, -1},
	} {
		if s := Gap(api.RegionTree{}, c.lo, c.hi, c.count); s != c.want {
			t.Errorf("Gap of an empty tree(%d, %d, %d) = %d, want %d", c.lo, c.hi, c.count, s, c.want)
		}
	}
}

// P3.7
func TestLaws(t *testing.T) {
	least := []int{0, 1}
	for h := 2; h < 20; h++ {
		least = append(least, least[h-1]+least[h-2]+1)
	}
	var up, down []api.Region
	for k := range api.Pages {
		up = append(up, pages(k, 1))
		down = append(down, pages(api.Pages-1-k, 1))
	}
	for _, l := range [][]api.Region{up, down} {
		var tree api.RegionTree
		for k, r := range l {
			tree, _ = Insert(tree, r)
			if k%32 != 31 && k > 40 {
				continue
			}
			if Check(tree) != api.OK || k+1 < least[tree.Height] || tree.Height > 12 {
				t.Fatalf("a tree of %d regions has Height %d", k+1, tree.Height)
			}
		}
	}
	tree, _ := Build(regionsOf(2, 2, 6, 1, 10, 3, 20, 5, 30, 1, 40, 2))
	for page := range 50 {
		grown, e := Insert(tree, pages(page, 1))
		if e != api.OK {
			continue
		}
		back, e := Delete(grown, page)
		if e != api.OK || Check(back) != api.OK || !slices.Equal(List(back), List(tree)) {
			t.Errorf("Insert and Delete of %d: %v, %d", page, back, e)
		}
	}
}

// spare returns a tree whose lists have spare capacity, with a mark in it.
func spare(t api.RegionTree) api.RegionTree {
	kids := make([]api.RegionTree, 0, 3)
	for _, kid := range t.Kids {
		kids = append(kids, spare(kid))
	}
	t.Kids = kids
	kids[:3][2].Gap = 91
	return t
}

// untouched reports whether the marks are as spare made them.
func untouched(t api.RegionTree) bool {
	for _, kid := range t.Kids {
		if !untouched(kid) {
			return false
		}
	}
	return t.Kids[:3][2].Gap == 91
}

// overwrite changes all trees inside of t, and the spare capacity of their lists.
func overwrite(t api.RegionTree) {
	_ = append(t.Kids, make([]api.RegionTree, 3-len(t.Kids))...)
	for n := range t.Kids {
		overwrite(t.Kids[n])
		t.Kids[n] = api.RegionTree{Height: 99}
	}
}

// Rule 'Values'.
func TestArgumentsStay(t *testing.T) {
	base := grown(t, regionsOf(2, 2, 6, 1, 10, 3, 20, 5, 30, 1, 40, 2, 50, 1))
	for page := -1; page < 60; page++ {
		for _, change := range []func(api.RegionTree) (api.RegionTree, int){
			func(a api.RegionTree) (api.RegionTree, int) { return Insert(a, pages(page, 1)) },
			func(a api.RegionTree) (api.RegionTree, int) { return Delete(a, page) },
		} {
			argument := spare(base)
			out, e := change(argument)
			if !same(argument, base) || !untouched(argument) {
				t.Fatal("the argument has changed")
			}
			if e != api.OK {
				continue
			}
			kept := copied(out)
			overwrite(argument)
			if !same(out, kept) {
				t.Fatal("the result changes with the argument")
			}
			argument = spare(base)
			out, _ = change(argument)
			overwrite(out)
			if !same(argument, base) || !untouched(argument) {
				t.Fatal("the argument changes with the result")
			}
		}
	}
	l := List(base)
	l[0].Start = 99
	if !same(base, grown(t, regionsOf(2, 2, 6, 1, 10, 3, 20, 5, 30, 1, 40, 2, 50, 1))) {
		t.Error("the tree changes with its List")
	}
}

// The example of the chapter.
func TestExamples(t *testing.T) {
	tree, e := Build(regionsOf(2, 2, 6, 1, 10, 3))
	if e != api.OK || tree.Height != 2 || tree.First != 2 || tree.Last != 13 || tree.Gap != 3 || tree.Region != pages(6, 1) {
		t.Errorf("Build: %v, %d", tree, e)
	}
	for _, c := range []struct{ lo, hi, count, want int }{{0, 512, 2, 0}, {0, 512, 3, 7}, {1, 9, 2, 4}, {1, 9, 3, -1}} {
		if s := Gap(tree, c.lo, c.hi, c.count); s != c.want {
			t.Errorf("Gap(%d, %d, %d) = %d", c.lo, c.hi, c.count, s)
		}
	}
	if r, ok := Find(tree, 3); r != pages(2, 2) || !ok {
		t.Error("Find of 3")
	}
	if _, ok := Find(tree, 4); ok {
		t.Error("Find of 4")
	}
	if r, ok := Next(tree, 4); r != pages(6, 1) || !ok {
		t.Error("Next of 4")
	}
	if _, ok := Next(tree, 13); ok {
		t.Error("Next of 13")
	}
}
