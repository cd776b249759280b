package filecache

import (
	"math"
	"math/rand"
	"reflect"
	"slices"
	"testing"

	"estovers/api"
	"estovers/radix"
)

// limits are the limits of int and of the machine, and the numbers beside them.
func limits() []int {
	return []int{math.MinInt, math.MinInt + 1, -1 << 32, -256, -8, -2, -1, 0, 1, 2, 7, 8, 9, 63, 64, 254, 255, 256, 257, 511, 512, 1<<27 - 1, 1 << 27, 1<<30 - 2, 1<<30 - 1, 1 << 30, 1<<30 + 1, 1 << 32, math.MaxInt - 1, math.MaxInt}
}

// indices are pages at the ends of nodes, some of which sample has, and numbers that are no pages.
func indices() []int { return []int{-1, 0, 1, 7, 8, 9, 64, 1<<30 - 1, 1 << 30} }

// sample returns a cache with frames, which do not ascend, and with shadows.
func sample() content {
	return content{0: {value: 256}, 1: {value: -1}, 7: {3, true, false}, 9: {2, false, true}, 64: {value: math.MinInt}, 70: {1, true, true}}
}

// contentsOf calls f for all contents of some pages with these cells; f may not keep them.
func contentsOf(pages []int, cells []cell, f func(c content)) {
	c := content{}
	var fill func(at int)
	fill = func(at int) {
		if at == len(pages) {
			f(c)
			return
		}
		delete(c, pages[at])
		fill(at + 1)
		for _, x := range cells {
			c[pages[at]] = x
			fill(at + 1)
		}
		delete(c, pages[at])
	}
	fill(0)
}

// cellsOf returns cells with these values and all tags.
func cellsOf(values ...int) []cell {
	var out []cell
	for _, v := range values {
		for tags := range 4 {
			out = append(out, cell{v, tags&1 == 1, tags&2 == 2})
		}
	}
	return out
}

// P28.1: Check, Frame, Shadow, NextDirty and Frames of all small caches, valid and not.
func TestLooks(t *testing.T) {
	var seen [api.ErrCorrupt + 1]int
	contentsOf([]int{0, 1, 9}, cellsOf(1, 256, 257, math.MaxInt, -1, math.MinInt), func(c content) {
		r := c.tree()
		expectLooks(t, r, []int{-1, 0, 1, 2, 9, 10})
		seen[checked(r)]++
	})
	for _, e := range []int{api.OK, api.ErrForm, api.ErrExist} {
		if seen[e] < 500 {
			t.Errorf("only %d caches with %d", seen[e], e)
		}
	}
}

// P28.1: all calls of all small caches, most of them valid.
func TestSmall(t *testing.T) {
	calls := actions(indices(), []int{-1, 0, 1, 255, 256}, []int{-1, 0, 20})
	seen := map[int]int{}
	contentsOf([]int{0, 9}, append(cellsOf(1, 2, 256), cell{value: -1}, cell{value: -21}, cell{value: 257}, cell{-1, true, false}), func(c content) {
		r := c.tree()
		for _, a := range calls {
			_, got := expect(t, r, a)
			seen[got.e]++
		}
	})
	for _, e := range []int{api.OK, api.ErrForm, api.ErrExist, api.ErrRange, api.ErrNone, api.ErrState} {
		if seen[e] < 200 {
			t.Errorf("only %d calls with %d", seen[e], e)
		}
	}
}

// P28.1: calls with the limits of int and of the machine.
func TestLimits(t *testing.T) {
	for _, c := range []content{{}, sample(), {1<<30 - 1: {value: 256}, 1<<30 - 2: {value: -9}, 1 << 27: {5, true, false}}} {
		r := c.tree()
		expectLooks(t, r, limits())
		for _, i := range limits() {
			for _, a := range actions([]int{0, 7, 9, 1<<30 - 1}, []int{i}, []int{i}) {
				expect(t, r, a)
			}
			for _, a := range actions([]int{i}, []int{0, 7}, []int{0, 9}) {
				expect(t, r, a)
			}
		}
	}
}

// P28.1: the clocks of shadows are all numbers that are not negative.
func TestClocks(t *testing.T) {
	r := content{5: {value: 8}}.tree()
	for _, clock := range limits() {
		out, e := Evict(r, 5, clock)
		if clock < 0 {
			if e != api.ErrRange || Shadow(out, 5) != -1 {
				t.Errorf("Evict with the clock %d = %v, %d", clock, out, e)
			}
			continue
		}
		if e != api.OK || Shadow(out, 5) != clock || Frame(out, 5) != -1 || radix.Get(out, 5) != -1-clock {
			t.Errorf("Evict with the clock %d = %v, %d", clock, out, e)
		}
	}
}

// invalidTrees are trees for which radix.Check returns an error.
func invalidTrees() map[int][]api.Radix {
	out := map[int][]api.Radix{}
	for _, height := range []int{math.MinInt, -1, 11, math.MaxInt} {
		r := sample().tree()
		r.Height = height
		out[api.ErrRange] = append(out[api.ErrRange], r)
	}
	for _, change := range []func(r *api.Radix){
		func(r *api.Radix) { r.Height-- },
		func(r *api.Radix) { r.Height++ },
		func(r *api.Radix) { r.Height = 0 },
		func(r *api.Radix) { r.Root.Kids = r.Root.Kids[:7] },
		func(r *api.Radix) { r.Root.Kids = nil },
		func(r *api.Radix) { r.Root.Values[3] = 1 },
		func(r *api.Radix) { r.Root.Tags[0] = -1 },
		func(r *api.Radix) { r.Root.Kids[0].Kids[0].Tags[1] |= 1 << 3 },
		func(r *api.Radix) { r.Root.Kids[0].Kids[0].Kids = r.Root.Kids },
		func(r *api.Radix) { r.Root.Kids[3].Kids = r.Root.Kids },
		func(r *api.Radix) { r.Root.Kids[0].Kids = make([]api.RadixNode, api.Fan) },
	} {
		r := sample().tree()
		change(&r)
		out[api.ErrForm] = append(out[api.ErrForm], r)
	}
	return out
}

// P28.1, for trees that are no radix trees; some contain themselves.
func TestInvalid(t *testing.T) {
	calls := actions([]int{-1, 0, 7, 1, 1 << 30}, []int{-1, 9}, []int{-1, 9})
	for e, trees := range invalidTrees() {
		for n, r := range trees {
			if got := Check(r); got != e {
				t.Errorf("tree %d: Check = %d, want %d", n, got, e)
			}
			expectLooks(t, r, []int{-1, 0, 1, 7, 64})
			for _, a := range calls {
				if _, got := expect(t, r, a); got.e != e {
					t.Errorf("tree %d: %s = %d, want %d", n, a.what, got.e, e)
				}
			}
		}
	}
}

// P28.1: which error comes first.
func TestFirstError(t *testing.T) {
	height := sample().tree()
	height.Height = 11
	form := content{0: {value: 257}, 1: {value: 5}, 2: {value: 5}}.tree()
	shared := content{1: {value: 5}, 2: {value: 5}}.tree()
	valid := content{1: {5, true, false}, 2: {5 + 1, false, true}, 3: {value: -4}}.tree()
	call := func(r api.Radix, a action) int {
		_, _, e := a.do(r)
		return e
	}
	for n, c := range []struct {
		r    api.Radix
		a    action
		want int
	}{
		{height, putAction(0, 0), api.ErrRange},
		{form, putAction(-1, -1), api.ErrForm},
		{content{1: {value: 5}, 2: {value: 5}, 3: {-1, true, false}}.tree(), putAction(-1, -1), api.ErrForm},
		{content{1: {value: 5}, 2: {value: 5}, 3: {-1, false, true}}.tree(), removeAction(7), api.ErrForm},
		{shared, putAction(-1, -1), api.ErrExist},
		{shared, moveAction(-1, -1), api.ErrExist},
		{shared, evictAction(-1, -1), api.ErrExist},
		{shared, removeAction(-1), api.ErrExist},
		{shared, dirtyAction(-1, true), api.ErrExist},
		{shared, truncateAction(-1), api.ErrExist},
		{valid, putAction(1, 256), api.ErrRange},
		{valid, putAction(-1, 4), api.ErrRange},
		{valid, putAction(1, 9), api.ErrExist},
		{valid, putAction(9, 4), api.ErrExist},
		{valid, moveAction(9, -1), api.ErrRange},
		{valid, moveAction(3, 256), api.ErrRange},
		{valid, moveAction(9, 4), api.ErrNone},
		{valid, moveAction(3, 4), api.ErrNone},
		{valid, moveAction(1, 4), api.ErrExist},
		{valid, moveAction(1, 5), api.ErrExist},
		{valid, evictAction(9, -1), api.ErrRange},
		{valid, evictAction(1, -1), api.ErrRange},
		{valid, evictAction(3, 8), api.ErrNone},
		{valid, evictAction(1, 8), api.ErrState},
		{valid, evictAction(2, 8), api.ErrState},
		{valid, removeAction(9), api.ErrNone},
		{valid, dirtyAction(3, false), api.ErrNone},
		{valid, dirtyAction(9, true), api.ErrNone},
		{valid, truncateAction(1<<30 + 1), api.ErrRange},
	} {
		if e := call(c.r, c.a); e != c.want {
			t.Errorf("case %d: %s = %d, want %d", n, c.a.what, e, c.want)
		}
	}
}

// P28.1: errors at the first of many pages, in trees of all heights.
func TestErrorAtFirstPage(t *testing.T) {
	for last := 1; last < 1<<30; last *= 8 {
		for _, c := range []content{{0: {value: 257}}, {0: {-1, true, false}}, {0: {value: 6}, 1: {value: 6}}} {
			for page, n := last, 10; page < 1<<30 && n < 18; page, n = page+last, n+1 {
				c[page+1] = cell{value: n}
			}
			expectLooks(t, c.tree(), []int{0, last})
			expect(t, c.tree(), truncateAction(0))
		}
	}
}

// files is a second model of a cache: for each page a frame and whether it is dirty, and for each page a shadow.
type files struct {
	frames, shadows map[int]int
	dirty           map[int]bool
}

// step makes a random call and does the same in the model; it returns whether there was an error.
func step(random *rand.Rand, r api.Radix, m files, width int) (api.Radix, bool) {
	page, frame, clock := random.Intn(width), random.Intn(20), random.Intn(1000)
	var out api.Radix
	var e int
	switch random.Intn(8) {
	case 0, 1, 2:
		if out, e = Put(r, page, frame); e == api.OK {
			m.frames[page] = frame
			delete(m.shadows, page)
		}
	case 3:
		if out, e = Move(r, page, frame); e == api.OK {
			m.frames[page] = frame
		}
	case 4:
		if out, e = Evict(r, page, clock); e == api.OK {
			delete(m.frames, page)
			m.shadows[page] = clock
		}
	case 5:
		if out, e = Remove(r, page); e == api.OK {
			delete(m.frames, page)
			delete(m.shadows, page)
			delete(m.dirty, page)
		}
	default:
		dirty := random.Intn(3) > 0
		if out, e = SetDirty(r, page, dirty); e == api.OK {
			m.dirty[page] = dirty
		}
	}
	if e != api.OK {
		return r, false
	}
	return out, true
}

// expectModel compares a cache with the model.
func expectModel(t *testing.T, r api.Radix, m files, width int) {
	t.Helper()
	owners, next := map[int]int{}, -1
	var frames []int
	for page := width - 1; page >= 0; page-- {
		frame, ok := m.frames[page]
		if ok {
			owners[frame]++
			frames = append([]int{frame}, frames...)
		} else {
			frame = -1
		}
		clock, ok := m.shadows[page]
		if !ok {
			clock = -1
		}
		if m.dirty[page] {
			next = page
		}
		if Frame(r, page) != frame || Shadow(r, page) != clock || NextDirty(r, page) != next || owners[frame] > 1 {
			t.Fatalf("page %d of %v: %d, %d, %d, want %d, %d, %d", page, contentOf(r), Frame(r, page), Shadow(r, page), NextDirty(r, page), frame, clock, next)
		}
	}
	if !slices.Equal(Frames(r), frames) || Check(r) != api.OK {
		t.Fatalf("Frames(%v) = %v, want %v", contentOf(r), Frames(r), frames)
	}
}

// P28.2: the cache is the finite map that the calls describe.
func TestSequences(t *testing.T) {
	random := rand.New(rand.NewSource(1))
	done := 0
	for _, width := range []int{4, 16, 70} {
		r, m := radix.New(), files{map[int]int{}, map[int]int{}, map[int]bool{}}
		for range 600 {
			var ok bool
			if r, ok = step(random, r, m, width); ok {
				done++
				expectModel(t, r, m, width)
			}
		}
	}
	if done < 600 {
		t.Errorf("only %d calls without an error", done)
	}
}

// P28.2: after Truncate the pages behind the size have nothing, and all others what they had.
func TestTruncate(t *testing.T) {
	random := rand.New(rand.NewSource(2))
	taken, left := 0, 0
	for range 200 {
		r, c := radix.New(), content{}
		for _, frame := range random.Perm(20)[:12] {
			page := random.Intn(20)
			if random.Intn(4) == 0 {
				page = random.Intn(1 << 30)
			}
			c[page] = cell{frame + 1, random.Intn(2) == 0, random.Intn(3) == 0}
			if random.Intn(3) == 0 {
				c[page] = cell{value: -1 - frame}
			}
		}
		r = c.tree()
		size := random.Intn(25)
		out, frames, e := Truncate(r, size)
		want := []int{}
		for _, page := range pagesOf(c) {
			if page >= size && Frame(r, page) >= 0 {
				want = append(want, Frame(r, page))
			}
			gone := Frame(out, page) == -1 && Shadow(out, page) == -1 && !radix.Tagged(out, page, api.TagDirty) && !radix.Tagged(out, page, api.TagWriteback)
			if page >= size && !gone || page < size && contentOf(out)[page] != c[page] {
				t.Fatalf("Truncate(%v, %d): page %d has %v", c, size, page, contentOf(out)[page])
			}
		}
		if e != api.OK || !slices.Equal(frames, want) {
			t.Fatalf("Truncate(%v, %d) = %v, %d, want %v", c, size, frames, e, want)
		}
		taken, left = taken+len(frames), left+len(Frames(out))
		expect(t, r, truncateAction(size))
	}
	if taken < 500 || left < 500 {
		t.Errorf("too few frames: %d, %d", taken, left)
	}
}

// P28.1: a cache with all frames there are, and with more shadows than frames.
func TestFull(t *testing.T) {
	r, e := radix.New(), api.OK
	for n := range 256 {
		r, e = Put(r, 3*n, 255-n)
		if e != api.OK || Frame(r, 3*n) != 255-n {
			t.Fatalf("Put(%d) = %d", n, e)
		}
	}
	for _, frame := range []int{-1, 0, 100, 252, 255, 256} {
		expect(t, r, putAction(1, frame))
		expect(t, r, moveAction(3, frame))
	}
	c := contentOf(r)
	for n := range 300 {
		c[3*n+1] = cell{value: -1 - n%7}
	}
	r = c.tree()
	if l := Frames(r); Check(r) != api.OK || len(l) != 256 || l[0] != 255 || l[255] != 0 {
		t.Errorf("Check = %d, Frames = %v", Check(r), l)
	}
	expect(t, r, truncateAction(300))
}

// withMarks returns a copy of a node whose lists have spare capacity, with marks in it.
func withMarks(n api.RadixNode) api.RadixNode {
	kids := make([]api.RadixNode, len(n.Kids)+1)
	for d, kid := range n.Kids {
		kids[d] = withMarks(kid)
	}
	kids[len(n.Kids)].Values[0] = 991
	n.Kids = kids[:len(n.Kids)]
	return n
}

// areMarked reports whether the marks below a node are as withMarks has made them.
func areMarked(n api.RadixNode) bool {
	for _, kid := range n.Kids {
		if !areMarked(kid) {
			return false
		}
	}
	return n.Kids[:len(n.Kids)+1][len(n.Kids)].Values[0] == 991
}

// overwrite changes everything below a node, and behind its lists.
func overwrite(n api.RadixNode) {
	_ = append(n.Kids, api.RadixNode{Tags: [2]int{98, 98}})
	for d, kid := range n.Kids {
		overwrite(kid)
		n.Kids[d] = api.RadixNode{Tags: [2]int{99, 99}}
	}
}

// plain makes nil of each empty list below a node, in a copy.
func plain(n api.RadixNode) api.RadixNode {
	var kids []api.RadixNode
	for _, kid := range n.Kids {
		kids = append(kids, plain(kid))
	}
	n.Kids = kids
	return n
}

func same(a, b api.Radix) bool {
	return a.Height == b.Height && reflect.DeepEqual(plain(a.Root), plain(b.Root))
}

// Rule 'Values': arguments are neither changed nor kept, and results share no memory with them.
func TestValues(t *testing.T) {
	for _, c := range []content{{}, sample(), {3: {value: 2}, 5: {value: -6}}} {
		r := c.tree()
		marked := func() api.Radix { return api.Radix{Height: r.Height, Root: withMarks(r.Root)} }
		isKept := func(argument api.Radix) bool { return same(argument, r) && areMarked(argument.Root) }
		for _, a := range actions(indices(), []int{0, 9}, []int{4}) {
			argument := marked()
			out, frames, _ := a.do(argument)
			if !isKept(argument) {
				t.Fatalf("%s: the argument has changed", a.what)
			}
			want, list := api.Radix{Height: out.Height, Root: withMarks(out.Root)}, slices.Clone(frames)
			overwrite(argument.Root)
			if !same(out, want) || !slices.Equal(frames, list) {
				t.Fatalf("%s: the result changes with the argument", a.what)
			}
			argument = marked()
			out, _, _ = a.do(argument)
			overwrite(out.Root)
			if !isKept(argument) {
				t.Fatalf("%s: the argument changes with the result", a.what)
			}
		}
		argument := marked()
		expectLooks(t, argument, indices())
		if !isKept(argument) {
			t.Fatalf("a function that returns no tree has changed its argument")
		}
	}
}

// The example of the chapter.
func TestExample(t *testing.T) {
	r, e := Put(api.Radix{}, 3, 7)
	if e != api.OK || radix.Get(r, 3) != 8 {
		t.Fatalf("Put = %v, %d", r, e)
	}
	r, e = SetDirty(r, 3, true)
	if e != api.OK || NextDirty(r, 0) != 3 {
		t.Fatalf("SetDirty = %v, %d", r, e)
	}
	if out, e := Evict(r, 3, 20); e != api.ErrState || !same(out, api.Radix{}) {
		t.Errorf("Evict of a dirty page = %v, %d", out, e)
	}
	r, _ = SetDirty(r, 3, false)
	r, e = Evict(r, 3, 20)
	if e != api.OK || radix.Get(r, 3) != -21 || Shadow(r, 3) != 20 || Frame(r, 3) != -1 {
		t.Fatalf("Evict = %v, %d", r, e)
	}
	r, e = Put(r, 9, 7)
	if e != api.OK {
		t.Fatalf("Put = %v, %d", r, e)
	}
	out, frames, e := Truncate(r, 5)
	if e != api.OK || !slices.Equal(frames, []int{7}) || !slices.Equal(radix.List(out), []int{3}) {
		t.Errorf("Truncate = %v, %v, %d", out, frames, e)
	}
}
