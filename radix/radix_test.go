package radix

import (
	"maps"
	"math"
	"math/rand"
	"reflect"
	"slices"
	"testing"

	"estovers/api"
)

// cell is the content of an index: a value and tags.
type cell struct {
	value int
	tags  [2]bool
}

// content is what a tree contains, as a direct reading of the chapter.
type content map[int]cell

// power returns 8^level.
func power(level int) int {
	n := 1
	for range level {
		n *= 8
	}
	return n
}

// tree returns the only valid tree with a content.
func (c content) tree() api.Radix {
	if len(c) == 0 {
		return api.Radix{}
	}
	last := slices.Max(slices.Collect(maps.Keys(c)))
	height := 1
	for power(height) <= last {
		height++
	}
	return api.Radix{Height: height, Root: c.node(height, 0)}
}

// node returns the node of a level whose first index is base.
func (c content) node(level, base int) api.RadixNode {
	var n api.RadixNode
	for i, x := range c {
		if i < base || i >= base+power(level) {
			continue
		}
		d := (i - base) / power(level-1)
		if level == 1 {
			n.Values[d] = x.value
		}
		for t, on := range x.tags {
			if on {
				n.Tags[t] |= 1 << d
			}
		}
		if level > 1 && len(n.Kids) == 0 {
			for k := range api.Fan {
				n.Kids = append(n.Kids, c.node(level-1, base+k*power(level-1)))
			}
		}
	}
	return n
}

// plain makes nil of each empty list of kids, in a copy.
func plain(n api.RadixNode) api.RadixNode {
	var kids []api.RadixNode
	for _, kid := range n.Kids {
		kids = append(kids, plain(kid))
	}
	n.Kids = kids
	return n
}

func same(a, b api.Radix) bool {
	return a.Height == b.Height && reflect.DeepEqual(plain(a.Root), plain(b.Root))
}

func expect(t *testing.T, what string, got api.Radix, e int, want content) {
	t.Helper()
	if e != api.OK || !same(got, want.tree()) {
		t.Fatalf("%s: got %v, %d, want %v", what, got, e, want)
	}
}

func refuse(t *testing.T, what string, got api.Radix, e, want int) {
	t.Helper()
	if e != want || !same(got, api.Radix{}) {
		t.Errorf("%s: got %v, %d, want the error %d", what, got, e, want)
	}
}

// agree compares all functions that read a tree with its content.
func agree(t *testing.T, r api.Radix, c content, indices []int) {
	t.Helper()
	if e := Check(r); e != api.OK {
		t.Fatalf("Check(%v) = %d", r, e)
	}
	all := slices.Sorted(maps.Keys(c))
	if !slices.Equal(List(r), all) {
		t.Fatalf("List(%v) = %v, want %v", r, List(r), all)
	}
	for tag := -1; tag < 2; tag++ {
		with := slices.DeleteFunc(slices.Clone(all), func(i int) bool { return tag >= 0 && !c[i].tags[tag] })
		if n := Count(r, tag); n != len(with) {
			t.Fatalf("Count(%v, %d) = %d, want %d", r, tag, n, len(with))
		}
		for _, from := range indices {
			want := -1
			if k := slices.IndexFunc(with, func(i int) bool { return i >= from }); k >= 0 && from >= 0 {
				want = with[k]
			}
			if i := Next(r, from, tag); i != want {
				t.Fatalf("Next(%v, %d, %d) = %d, want %d", r, from, tag, i, want)
			}
		}
	}
	for _, i := range indices {
		if v := Get(r, i); v != c[i].value {
			t.Fatalf("Get(%v, %d) = %d, want %d", r, i, v, c[i].value)
		}
		for tag := range 2 {
			if Tagged(r, i, tag) != c[i].tags[tag] {
				t.Fatalf("Tagged(%v, %d, %d)", r, i, tag)
			}
		}
	}
}

// edges are the indices at which digits change, those beside them, and those behind the ends.
func edges() []int {
	out := []int{-1, math.MinInt, math.MaxInt, api.RadixMax, api.RadixMax - 1, api.RadixMax + 1}
	for level := range 11 {
		n := power(level)
		out = append(out, n-1, n, n+1, 3*n, 5*n+2)
	}
	return out
}

// sample returns a tree with some entries and tags.
func sample() (api.Radix, content) {
	c := content{
		0: {5, [2]bool{}}, 3: {math.MinInt, [2]bool{true, false}}, 9: {7, [2]bool{false, true}}, 63: {-1, [2]bool{true, true}},
		64: {1, [2]bool{}}, 130: {2, [2]bool{true, false}}, 511: {math.MaxInt, [2]bool{false, true}},
	}
	return c.tree(), c
}

// invalid is a tree that is not valid, with the error of Check.
type invalid struct {
	what string
	r    api.Radix
	e    int
}

func invalidTrees() []invalid {
	var out []invalid
	add := func(what string, e int, change func(r *api.Radix)) {
		r, _ := sample()
		change(&r)
		out = append(out, invalid{what, r, e})
	}
	type kids = []api.RadixNode
	add("height 11", api.ErrRange, func(r *api.Radix) { r.Height = 11 })
	add("a huge height", api.ErrRange, func(r *api.Radix) { r.Height = math.MaxInt })
	add("height -1", api.ErrRange, func(r *api.Radix) { r.Height = -1 })
	add("the least height", api.ErrRange, func(r *api.Radix) { *r = api.Radix{Height: math.MinInt} })
	add("height 0", api.ErrForm, func(r *api.Radix) { r.Height = 0 })
	add("height 1", api.ErrForm, func(r *api.Radix) { r.Height = 1 })
	add("height 2", api.ErrForm, func(r *api.Radix) { r.Height = 2 })
	add("height 4", api.ErrForm, func(r *api.Radix) { r.Height = 4 })
	add("height 10", api.ErrForm, func(r *api.Radix) { r.Height = 10 })
	for height := 1; height <= 10; height++ {
		add("no entries", api.ErrForm, func(r *api.Radix) { *r = api.Radix{Height: height} })
		add("no entries", api.ErrForm, func(r *api.Radix) { *r = api.Radix{Height: height, Root: api.RadixNode{Kids: make(kids, 8)}} })
	}
	add("an empty tree with a value", api.ErrForm, func(r *api.Radix) { *r = api.Radix{}; r.Root.Values[7] = 1 })
	add("an empty tree with a tag", api.ErrForm, func(r *api.Radix) { *r = api.Radix{}; r.Root.Tags[1] = 1 })
	add("an empty tree with kids", api.ErrForm, func(r *api.Radix) { *r = api.Radix{}; r.Root.Kids = make(kids, 8) })
	add("seven kids", api.ErrForm, func(r *api.Radix) { r.Root.Kids[2].Kids = r.Root.Kids[2].Kids[:7] })
	add("nine kids", api.ErrForm, func(r *api.Radix) { r.Root.Kids = append(r.Root.Kids, api.RadixNode{}) })
	add("no kids", api.ErrForm, func(r *api.Radix) { r.Root.Kids[2].Kids = nil })
	add("a value of an inner node", api.ErrForm, func(r *api.Radix) { r.Root.Values[0] = 5 })
	add("a value of a lower inner node", api.ErrForm, func(r *api.Radix) { r.Root.Kids[7].Values[7] = -1 })
	add("kids of a leaf", api.ErrForm, func(r *api.Radix) { r.Root.Kids[0].Kids[0].Kids = make(kids, 8) })
	add("a kid of a leaf", api.ErrForm, func(r *api.Radix) { r.Root.Kids[0].Kids[0].Kids = make(kids, 1) })
	add("a leaf without entries", api.ErrForm, func(r *api.Radix) { r.Root.Kids[2].Kids[1].Tags[0] = 1; r.Root.Kids[2].Tags[0] |= 2 })
	add("a node without entries", api.ErrForm, func(r *api.Radix) { r.Root.Kids[3].Kids = make(kids, 8) })
	add("a node with empty kids only", api.ErrForm, func(r *api.Radix) { r.Root.Kids[3] = api.RadixNode{Kids: make(kids, 3)} })
	for t := range 2 {
		for bit := range 64 {
			add("a tag in the root", api.ErrForm, func(r *api.Radix) { r.Root.Tags[t] ^= 1 << bit })
			add("a tag in an inner node", api.ErrForm, func(r *api.Radix) { r.Root.Kids[0].Tags[t] ^= 1 << bit })
			add("a tag in an absent node", api.ErrForm, func(r *api.Radix) { r.Root.Kids[4].Tags[t] ^= 1 << bit })
			if bit != 0 && bit != 3 {
				add("a tag in a leaf", api.ErrForm, func(r *api.Radix) { r.Root.Kids[0].Kids[0].Tags[t] ^= 1 << bit })
			}
		}
		add("a tag of a leaf that its parent does not know", api.ErrForm, func(r *api.Radix) { r.Root.Kids[1].Kids[0].Tags[t] = 1 })
	}
	add("a leaf of height 1 with a tag of no entry", api.ErrForm, func(r *api.Radix) {
		*r = api.Radix{Height: 1}
		r.Root.Values[2], r.Root.Tags[1] = 1, 1<<3
	})
	add("an entry that is not a leaf", api.ErrForm, func(r *api.Radix) { r.Root.Kids[5].Values[0] = 1 })
	add("only the first kid", api.ErrForm, func(r *api.Radix) {
		first := r.Root.Kids[0]
		r.Root = api.RadixNode{Tags: [2]int{1, 1}, Kids: make(kids, 8)}
		r.Root.Kids[0] = first
	})
	return out
}

// P4.1
func TestCheck(t *testing.T) {
	r, _ := sample()
	whole := content{}
	for i := range 8 {
		whole[i] = cell{1, [2]bool{true, true}}
	}
	for _, r := range []api.Radix{r, {}, {Root: api.RadixNode{Kids: []api.RadixNode{}}}, whole.tree(), content{api.RadixMax - 1: {1, [2]bool{}}}.tree()} {
		if e := Check(r); e != api.OK {
			t.Errorf("Check(%v) = %d", r, e)
		}
	}
	r.Root.Kids[4].Kids = []api.RadixNode{}
	r.Root.Kids[0].Kids[0].Kids = []api.RadixNode{}
	if e := Check(r); e != api.OK {
		t.Errorf("Check with empty lists = %d", e)
	}
	for _, c := range invalidTrees() {
		if e := Check(c.r); e != c.e {
			t.Errorf("%s: Check = %d, want %d", c.what, e, c.e)
		}
	}
	if !same(New(), api.Radix{}) || Check(New()) != api.OK {
		t.Errorf("New() = %v", New())
	}
}

// P4.1, for trees that are deeper than their Height, or contain themselves.
func TestCheckDeep(t *testing.T) {
	var n api.RadixNode
	n.Values[0] = 1
	for range 100000 {
		kids := make([]api.RadixNode, 8)
		kids[1] = n
		n = api.RadixNode{Kids: kids}
	}
	circle := make([]api.RadixNode, 8)
	circle[3].Kids = circle
	for height := 1; height <= 10; height++ {
		for _, root := range []api.RadixNode{n, circle[3]} {
			if e := Check(api.Radix{Height: height, Root: root}); e != api.ErrForm {
				t.Errorf("Check of a tree of Height %d = %d", height, e)
			}
		}
	}
}

// P4.1 to P4.6, for trees that are not valid.
func TestInvalid(t *testing.T) {
	for _, c := range invalidTrees() {
		for _, i := range []int{0, 3, 9, -1, api.RadixMax} {
			out, e := Set(c.r, i, 4)
			refuse(t, c.what, out, e, c.e)
			out, e = Set(c.r, i, 0)
			refuse(t, c.what, out, e, c.e)
			for tag := -1; tag < 3; tag++ {
				out, e = Tag(c.r, i, tag)
				refuse(t, c.what, out, e, c.e)
				out, e = Untag(c.r, i, tag)
				refuse(t, c.what, out, e, c.e)
				if Tagged(c.r, i, tag) || Next(c.r, i, tag) != -1 || Count(c.r, tag) != 0 {
					t.Errorf("%s: Tagged, Next or Count", c.what)
				}
			}
			if Get(c.r, i) != 0 {
				t.Errorf("%s: Get(%d)", c.what, i)
			}
		}
		if len(List(c.r)) != 0 {
			t.Errorf("%s: List", c.what)
		}
	}
}

// P4.2 and P4.5 to P4.6
func TestRead(t *testing.T) {
	r, c := sample()
	indices := edges()
	for i := range 520 {
		indices = append(indices, i)
	}
	agree(t, r, c, indices)
	agree(t, New(), content{}, indices)
	all := content{}
	for i := range 512 {
		all[i] = cell{i + 1, [2]bool{i%3 == 0, i > 400}}
	}
	agree(t, all.tree(), all, indices)
	for _, i := range edges() {
		if i >= 0 && i < api.RadixMax {
			one := content{i: {-7, [2]bool{i%2 == 0, i%2 == 1}}}
			agree(t, one.tree(), one, edges())
		}
	}
}

// P4.5 and P4.6, for tags that do not exist.
func TestReadTags(t *testing.T) {
	r, _ := sample()
	for _, tag := range []int{-2, 2, 64, math.MinInt, math.MaxInt} {
		if Next(r, 0, tag) != -1 || Count(r, tag) != 0 || Tagged(r, 63, tag) {
			t.Errorf("tag %d", tag)
		}
	}
	if Tagged(r, 63, -1) {
		t.Error("Tagged with tag -1")
	}
}

// P4.3, with all orders of setting and removing indices of different heights.
func TestSet(t *testing.T) {
	for _, first := range edges() {
		for _, second := range edges() {
			c := content{}
			r := New()
			for k, i := range []int{first, second} {
				out, e := Set(r, i, k+1)
				if i < 0 || i >= api.RadixMax {
					refuse(t, "Set", out, e, api.ErrRange)
					continue
				}
				c[i] = cell{value: k + 1}
				expect(t, "Set", out, e, c)
				r = out
			}
			for _, i := range []int{first, second} {
				out, e := Set(r, i, 0)
				if i < 0 || i >= api.RadixMax {
					refuse(t, "Set to 0", out, e, api.ErrRange)
					continue
				}
				delete(c, i)
				expect(t, "Set to 0", out, e, c)
				r = out
			}
		}
	}
}

// P4.3, of trees with tags.
func TestSetTags(t *testing.T) {
	r, c := sample()
	for i := range 600 {
		for _, v := range []int{0, 1, -1, math.MinInt} {
			out, e := Set(r, i, v)
			want := maps.Clone(c)
			x := want[i]
			x.value = v
			want[i] = x
			if v == 0 {
				delete(want, i)
			}
			expect(t, "Set", out, e, want)
		}
	}
	// The tags are gone with the entry.
	out, e := Set(r, 63, 0)
	if e == api.OK {
		out, e = Set(out, 63, 9)
	}
	c[63] = cell{value: 9}
	expect(t, "Set after removal", out, e, c)
}

// P4.4
func TestTag(t *testing.T) {
	r, c := sample()
	indices := edges()
	for i := range 520 {
		indices = append(indices, i)
	}
	for _, i := range indices {
		for _, tag := range []int{-1, 0, 1, 2, math.MinInt, math.MaxInt} {
			for _, on := range []bool{false, true} {
				change := Untag
				if on {
					change = Tag
				}
				out, e := change(r, i, tag)
				x, exists := c[i]
				switch {
				case i < 0 || i >= api.RadixMax:
					refuse(t, "Tag", out, e, api.ErrRange)
				case tag != 0 && tag != 1:
					refuse(t, "Tag", out, e, api.ErrArg)
				case !exists:
					refuse(t, "Tag", out, e, api.ErrNone)
				default:
					x.tags[tag] = on
					want := maps.Clone(c)
					want[i] = x
					expect(t, "Tag", out, e, want)
				}
			}
		}
	}
	out, e := Tag(New(), 0, 0)
	refuse(t, "Tag of an empty tree", out, e, api.ErrNone)
}

// P4.7, with long sequences: the tree depends on its content only.
func TestSequences(t *testing.T) {
	random := rand.New(rand.NewSource(1))
	for _, width := range []int{8, 20, 64, 600, 70000, api.RadixMax} {
		r, c := New(), content{}
		for step := range 600 {
			i := random.Intn(width)
			if all := List(r); len(all) > 0 && random.Intn(3) > 0 {
				i = all[random.Intn(len(all))]
			}
			var out api.Radix
			var e int
			x := c[i]
			switch tag := random.Intn(2); random.Intn(4) {
			case 0:
				x.value = 1 + random.Intn(5)
				out, e = Set(r, i, x.value)
			case 1:
				x = cell{}
				if step%100 < 60 {
					continue
				}
				out, e = Set(r, i, 0)
			case 2:
				x.tags[tag] = true
				out, e = Tag(r, i, tag)
			default:
				x.tags[tag] = false
				out, e = Untag(r, i, tag)
			}
			if _, exists := c[i]; !exists && e == api.ErrNone {
				continue
			}
			c[i] = x
			if x.value == 0 {
				delete(c, i)
			}
			expect(t, "a sequence", out, e, c)
			r = out
			agree(t, r, c, []int{i, i + 1, random.Intn(width)})
		}
	}
}

// copied returns a copy whose lists have spare capacity, with a mark in it.
func copied(n api.RadixNode) api.RadixNode {
	if len(n.Kids) == 0 {
		n.Kids = make([]api.RadixNode, 1)[:0]
		n.Kids[:1][0].Values[0] = 91
		return n
	}
	kids := make([]api.RadixNode, 8, 9)
	for d, kid := range n.Kids {
		kids[d] = copied(kid)
	}
	kids[:9][8].Values[0] = 91
	n.Kids = kids
	return n
}

// untouched reports whether the marks are as copied made them.
func untouched(n api.RadixNode) bool {
	for _, kid := range n.Kids {
		if !untouched(kid) {
			return false
		}
	}
	return n.Kids[:len(n.Kids)+1][len(n.Kids)].Values[0] == 91
}

// overwrite changes all nodes below n, and the spare capacity of their lists.
func overwrite(n api.RadixNode) {
	_ = append(n.Kids, api.RadixNode{})
	for d, kid := range n.Kids {
		overwrite(kid)
		n.Kids[d] = api.RadixNode{Tags: [2]int{99, 99}}
	}
}

// Rule 'Values'.
func TestArgumentsStay(t *testing.T) {
	r, c := sample()
	for _, i := range []int{0, 1, 9, 63, 64, 65, 511, 512, 5000} {
		for name, change := range map[string]func(api.Radix) (api.Radix, int){
			"Set":      func(a api.Radix) (api.Radix, int) { return Set(a, i, 77) },
			"Set to 0": func(a api.Radix) (api.Radix, int) { return Set(a, i, 0) },
			"Tag":      func(a api.Radix) (api.Radix, int) { return Tag(a, i, 0) },
			"Untag":    func(a api.Radix) (api.Radix, int) { return Untag(a, i, 1) },
		} {
			argument := api.Radix{Height: r.Height, Root: copied(r.Root)}
			out, e := change(argument)
			if !same(argument, c.tree()) || !untouched(argument.Root) {
				t.Fatalf("%s at %d: the argument has changed", name, i)
			}
			if e != api.OK {
				continue
			}
			kept := api.Radix{Height: out.Height, Root: copied(out.Root)}
			overwrite(argument.Root)
			if !same(out, kept) {
				t.Fatalf("%s at %d: the result changes with the argument", name, i)
			}
			argument.Root = copied(r.Root)
			out, _ = change(argument)
			overwrite(out.Root)
			if !same(argument, c.tree()) || !untouched(argument.Root) {
				t.Fatalf("%s at %d: the argument changes with the result", name, i)
			}
		}
	}
}

// The example of the chapter.
func TestExamples(t *testing.T) {
	one, e := Set(New(), 0, 5)
	if e != api.OK || one.Height != 1 || one.Root.Values != [8]int{5} {
		t.Errorf("Set at 0: %v, %d", one, e)
	}
	two, e := Set(one, 9, 7)
	if e != api.OK || two.Height != 2 || two.Root.Kids[0].Values != [8]int{5} || two.Root.Kids[1].Values != [8]int{0, 7} {
		t.Fatalf("Set at 9: %v, %d", two, e)
	}
	for _, kid := range two.Root.Kids[2:] {
		if !reflect.DeepEqual(plain(kid), api.RadixNode{}) {
			t.Errorf("Set at 9: %v", kid)
		}
	}
	tagged, e := Tag(two, 9, api.TagDirty)
	if e != api.OK || tagged.Root.Tags != [2]int{2, 0} || tagged.Root.Kids[1].Tags != [2]int{2, 0} {
		t.Errorf("Tag at 9: %v, %d", tagged, e)
	}
	if Next(tagged, 0, 0) != 9 || Next(tagged, 0, 1) != -1 || Next(tagged, 1, -1) != 9 {
		t.Error("Next")
	}
	if back, e := Set(tagged, 9, 0); e != api.OK || !same(back, one) {
		t.Errorf("Set at 9 with 0: %v, %d", back, e)
	}
}
