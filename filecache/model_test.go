package filecache

import (
	"fmt"
	"maps"
	"slices"
	"testing"

	"estovers/api"
	"estovers/radix"
)

// cell is what the tree of a cache has at a page.
type cell struct {
	value            int
	dirty, writeback bool
}

// content is what the tree of a cache has, which determines it.
type content map[int]cell

// tree returns the valid tree with a content.
func (c content) tree() api.Radix {
	r := radix.New()
	for _, page := range pagesOf(c) {
		r = mustSet(r, page, c[page])
	}
	return r
}

func mustSet(r api.Radix, page int, x cell) api.Radix {
	r, e := radix.Set(r, page, x.value)
	if x.dirty && e == api.OK {
		r, e = radix.Tag(r, page, api.TagDirty)
	}
	if x.writeback && e == api.OK {
		r, e = radix.Tag(r, page, api.TagWriteback)
	}
	if e != api.OK {
		panic(fmt.Sprint("no cell: ", page, x))
	}
	return r
}

// contentOf returns the content of a valid tree.
func contentOf(r api.Radix) content {
	c := content{}
	for _, page := range radix.List(r) {
		c[page] = cell{radix.Get(r, page), radix.Tagged(r, page, api.TagDirty), radix.Tagged(r, page, api.TagWriteback)}
	}
	return c
}

func pagesOf(c content) []int { return slices.Sorted(maps.Keys(c)) }

// checked is the promise of Check.
func checked(r api.Radix) int {
	if e := radix.Check(r); e != api.OK {
		return e
	}
	c := contentOf(r)
	for _, x := range c {
		if x.value > 256 || x.value < 0 && (x.dirty || x.writeback) {
			return api.ErrForm
		}
	}
	for page, x := range c {
		for other, y := range c {
			if page != other && x.value > 0 && x.value == y.value {
				return api.ErrExist
			}
		}
	}
	return api.OK
}

// outcome is what an action returns.
type outcome struct {
	c      content
	frames []int
	e      int
}

func refuse(e int) outcome { return outcome{e: e} }

func (o outcome) same(p outcome) bool {
	return maps.Equal(o.c, p.c) && slices.Equal(o.frames, p.frames) && o.e == p.e
}

// action is a call, and the direct reading of its promise for the content of a valid cache.
type action struct {
	what string
	do   func(r api.Radix) (api.Radix, []int, int)
	read func(c content) outcome
}

func isNoPage(index int) bool  { return index < 0 || index > 1<<30-1 }
func isNoFrame(frame int) bool { return frame < 0 || frame > 255 }

// belongs reports whether a frame belongs to a page.
func (c content) belongs(frame int) bool {
	for _, x := range c {
		if x.value > 0 && x.value-1 == frame {
			return true
		}
	}
	return false
}

// with is c with another cell.
func (c content) with(page int, x cell) outcome {
	out := maps.Clone(c)
	out[page] = x
	return outcome{c: out}
}

func putAction(index, frame int) action {
	return action{fmt.Sprintf("Put(%d, %d)", index, frame), func(r api.Radix) (api.Radix, []int, int) {
		out, e := Put(r, index, frame)
		return out, nil, e
	}, func(c content) outcome {
		if isNoPage(index) || isNoFrame(frame) {
			return refuse(api.ErrRange)
		}
		if c[index].value > 0 || c.belongs(frame) {
			return refuse(api.ErrExist)
		}
		return c.with(index, cell{value: frame + 1})
	}}
}

func moveAction(index, frame int) action {
	return action{fmt.Sprintf("Move(%d, %d)", index, frame), func(r api.Radix) (api.Radix, []int, int) {
		out, e := Move(r, index, frame)
		return out, nil, e
	}, func(c content) outcome {
		if isNoPage(index) || isNoFrame(frame) {
			return refuse(api.ErrRange)
		}
		if c[index].value <= 0 {
			return refuse(api.ErrNone)
		}
		if c.belongs(frame) {
			return refuse(api.ErrExist)
		}
		return c.with(index, cell{frame + 1, c[index].dirty, c[index].writeback})
	}}
}

func evictAction(index, clock int) action {
	return action{fmt.Sprintf("Evict(%d, %d)", index, clock), func(r api.Radix) (api.Radix, []int, int) {
		out, e := Evict(r, index, clock)
		return out, nil, e
	}, func(c content) outcome {
		if isNoPage(index) || clock < 0 {
			return refuse(api.ErrRange)
		}
		if c[index].value <= 0 {
			return refuse(api.ErrNone)
		}
		if c[index].dirty || c[index].writeback {
			return refuse(api.ErrState)
		}
		return c.with(index, cell{value: -clock - 1})
	}}
}

func removeAction(index int) action {
	return action{fmt.Sprintf("Remove(%d)", index), func(r api.Radix) (api.Radix, []int, int) {
		out, e := Remove(r, index)
		return out, nil, e
	}, func(c content) outcome {
		if isNoPage(index) {
			return refuse(api.ErrRange)
		}
		if _, ok := c[index]; !ok {
			return refuse(api.ErrNone)
		}
		out := maps.Clone(c)
		delete(out, index)
		return outcome{c: out}
	}}
}

func dirtyAction(index int, dirty bool) action {
	return action{fmt.Sprintf("SetDirty(%d, %t)", index, dirty), func(r api.Radix) (api.Radix, []int, int) {
		out, e := SetDirty(r, index, dirty)
		return out, nil, e
	}, func(c content) outcome {
		if isNoPage(index) {
			return refuse(api.ErrRange)
		}
		if c[index].value <= 0 {
			return refuse(api.ErrNone)
		}
		return c.with(index, cell{c[index].value, dirty, c[index].writeback})
	}}
}

func truncateAction(size int) action {
	return action{fmt.Sprintf("Truncate(%d)", size), func(r api.Radix) (api.Radix, []int, int) {
		return Truncate(r, size)
	}, func(c content) outcome {
		if size < 0 || size > 1<<30 {
			return refuse(api.ErrRange)
		}
		kept, frames := content{}, []int(nil)
		for _, page := range pagesOf(c) {
			switch x := c[page]; {
			case page < size:
				kept[page] = x
			case x.value > 0:
				frames = append(frames, x.value-1)
			}
		}
		return outcome{c: kept, frames: frames}
	}}
}

// frameAt, shadowAt, nextDirty and framesOf are the promises of Frame, Shadow, NextDirty and Frames.
func frameAt(r api.Radix, index int) int {
	if checked(r) == api.OK && !isNoPage(index) && radix.Get(r, index) > 0 {
		return radix.Get(r, index) - 1
	}
	return -1
}

func shadowAt(r api.Radix, index int) int {
	if checked(r) == api.OK && !isNoPage(index) && radix.Get(r, index) < 0 {
		return -(radix.Get(r, index) + 1)
	}
	return -1
}

func nextDirty(r api.Radix, from int) int {
	if checked(r) == api.OK && from >= 0 {
		c := contentOf(r)
		for _, page := range pagesOf(c) {
			if page >= from && c[page].dirty {
				return page
			}
		}
	}
	return -1
}

func framesOf(r api.Radix) []int {
	var frames []int
	if checked(r) == api.OK {
		c := contentOf(r)
		for _, page := range pagesOf(c) {
			if x := c[page]; x.value > 0 {
				frames = append(frames, x.value-1)
			}
		}
	}
	return frames
}

// expect compares an action with the direct reading of its promise, and returns the tree.
func expect(t *testing.T, r api.Radix, a action) (api.Radix, outcome) {
	t.Helper()
	out, frames, e := a.do(r)
	got, want := outcome{contentOf(out), frames, e}, refuse(checked(r))
	if want.e == api.OK {
		want = a.read(contentOf(r))
	}
	if !got.same(want) {
		t.Fatalf("%s of %v = %v, want %v", a.what, contentOf(r), got, want)
	}
	// P28.2: the trees that are returned are valid caches; beside an error they are empty.
	if c := checked(out); c != api.OK || e != api.OK && (out.Height != 0 || len(out.Root.Kids) > 0) {
		t.Fatalf("%s of %v = %v, which is not valid: %d", a.what, contentOf(r), out, c)
	}
	return out, got
}

// expectLooks compares the functions that return no tree with their promises.
func expectLooks(t *testing.T, r api.Radix, indices []int) {
	t.Helper()
	if e := Check(r); e != checked(r) {
		t.Fatalf("Check(%v) = %d, want %d", contentOf(r), e, checked(r))
	}
	if l := Frames(r); !slices.Equal(l, framesOf(r)) {
		t.Fatalf("Frames(%v) = %v, want %v", contentOf(r), l, framesOf(r))
	}
	for _, i := range indices {
		if n := Frame(r, i); n != frameAt(r, i) {
			t.Fatalf("Frame(%v, %d) = %d, want %d", contentOf(r), i, n, frameAt(r, i))
		}
		if n := Shadow(r, i); n != shadowAt(r, i) {
			t.Fatalf("Shadow(%v, %d) = %d, want %d", contentOf(r), i, n, shadowAt(r, i))
		}
		if n := NextDirty(r, i); n != nextDirty(r, i) {
			t.Fatalf("NextDirty(%v, %d) = %d, want %d", contentOf(r), i, n, nextDirty(r, i))
		}
	}
}

// actions are calls for all these pages, frames and clocks; each page is also a size.
func actions(indices, frames, clocks []int) []action {
	var out []action
	for _, i := range indices {
		out = append(out, removeAction(i), dirtyAction(i, false), dirtyAction(i, true), truncateAction(i))
		for _, frame := range frames {
			out = append(out, putAction(i, frame), moveAction(i, frame))
		}
		for _, clock := range clocks {
			out = append(out, evictAction(i, clock))
		}
	}
	return out
}
