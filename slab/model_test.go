package slab

import (
	"fmt"
	"slices"
	"testing"

	"estovers/api"
)

// checked is the promise of Check.
func checked(c api.SlabCache) int {
	if c.Objects < 1 || c.Objects > 32 {
		return api.ErrArg
	}
	for i, s := range c.Slabs {
		if s.Frame < 0 || s.Frame > 255 {
			return api.ErrRange
		}
		if i > 0 && !(c.Slabs[i-1].Frame < s.Frame) {
			return api.ErrOrder
		}
		if len(s.Used) != c.Objects {
			return api.ErrForm
		}
		if !slices.Contains(s.Used, true) {
			return api.ErrNone
		}
	}
	return api.OK
}

// usedOf returns the numbers of the used objects of a valid cache, which it is a function of.
func usedOf(c api.SlabCache) []int {
	var out []int
	for object := range 256 * c.Objects {
		for _, s := range c.Slabs {
			if s.Frame == object/c.Objects && s.Used[object%c.Objects] {
				out = append(out, object)
			}
		}
	}
	return out
}

// cacheOf returns the valid cache of which these objects are used.
func cacheOf(objects int, used []int) api.SlabCache {
	c := api.SlabCache{Objects: objects}
	for frame := range 256 {
		s := api.Slab{Frame: frame}
		for i := range objects {
			s.Used = append(s.Used, slices.Contains(used, frame*objects+i))
		}
		if slices.Contains(s.Used, true) {
			c.Slabs = append(c.Slabs, s)
		}
	}
	return c
}

// freeIn returns the numbers of the objects in these frames that are not used, ascending.
func freeIn(c api.SlabCache, frames []int, used []int) []int {
	var out []int
	for _, frame := range slices.Sorted(slices.Values(frames)) {
		for i := range c.Objects {
			if object := frame*c.Objects + i; !slices.Contains(used, object) {
				out = append(out, object)
			}
		}
	}
	return out
}

func framesOf(c api.SlabCache) []int {
	var out []int
	for _, s := range c.Slabs {
		out = append(out, s.Frame)
	}
	return out
}

// isEnough reports whether n more objects fit into a cache with a number of new frames.
func isEnough(c api.SlabCache, n, frames int) bool {
	// The places may be a few more than the greatest int.
	return uint64(n) <= uint64(len(c.Slabs)*c.Objects-len(usedOf(c)))+uint64(frames)*uint64(c.Objects)
}

// isNeed reports whether a number of frames is the promise of Need.
func isNeed(c api.SlabCache, n, frames int) bool {
	if n < 1 || checked(c) != api.OK {
		return frames == 0
	}
	return frames >= 0 && isEnough(c, n, frames) && (frames == 0 || !isEnough(c, n, frames-1))
}

// outcome is the result of a function.
type outcome struct {
	c       api.SlabCache
	objects []int // of Alloc
	frame   int   // from Free
	e       int
}

func refuse(e int) outcome { return outcome{e: e} }

func (o outcome) same(p outcome) bool {
	return o.frame == p.frame && o.e == p.e && slices.Equal(o.objects, p.objects) && same(o.c, p.c)
}

// action is a call of a function, and a direct reading of its promise for a valid cache.
type action struct {
	what string
	do   func(c api.SlabCache) outcome
	read func(c api.SlabCache) outcome
}

func allocAction(n int, frames []int) action {
	return action{fmt.Sprintf("Alloc(%d, %v)", n, frames), func(c api.SlabCache) outcome {
		out, objects, e := Alloc(c, n, frames)
		return outcome{c: out, objects: objects, e: e}
	}, func(c api.SlabCache) outcome {
		if n < 1 || !isNeed(c, n, len(frames)) {
			return refuse(api.ErrArg)
		}
		for i, frame := range frames {
			if frame < 0 || frame > 255 {
				return refuse(api.ErrRange)
			}
			if slices.Contains(framesOf(c), frame) || slices.Contains(frames[:i], frame) {
				return refuse(api.ErrExist)
			}
		}
		used := usedOf(c)
		objects := slices.Concat(freeIn(c, framesOf(c), used), freeIn(c, frames, nil))[:n]
		return outcome{c: cacheOf(c.Objects, slices.Concat(used, objects)), objects: objects}
	}}
}

func freeAction(object int) action {
	return action{fmt.Sprintf("Free(%d)", object), func(c api.SlabCache) outcome {
		out, frame, e := Free(c, object)
		return outcome{c: out, frame: frame, e: e}
	}, func(c api.SlabCache) outcome {
		used := usedOf(c)
		i := slices.Index(used, object)
		if i < 0 {
			return refuse(api.ErrNone)
		}
		out := outcome{c: cacheOf(c.Objects, slices.Delete(used, i, i+1)), frame: -1}
		for _, frame := range framesOf(c) {
			if !slices.Contains(framesOf(out.c), frame) {
				out.frame = frame
			}
		}
		return out
	}}
}

// expect compares an action for any cache with the direct reading of its promise.
func expect(t *testing.T, c api.SlabCache, a action) outcome {
	t.Helper()
	got, want := a.do(c), refuse(checked(c))
	if want.e == api.OK {
		want = a.read(c)
	}
	if !got.same(want) {
		t.Fatalf("%s of %v = %v, want %v", a.what, c, got, want)
	}
	if got.e == api.OK && Check(got.c) != api.OK {
		t.Fatalf("%s of %v = %v, which is not valid", a.what, c, got)
	}
	return got
}

// expectLooks compares Check, Need, Objects and Account with their promises.
func expectLooks(t *testing.T, c api.SlabCache) {
	t.Helper()
	e := checked(c)
	if got := Check(c); got != e {
		t.Fatalf("Check(%v) = %d, want %d", c, got, e)
	}
	var used []int
	wantFrames, wantFree := 0, 0
	if e == api.OK {
		used = usedOf(c)
		wantFrames, wantFree = len(c.Slabs), len(freeIn(c, framesOf(c), used))
	}
	if got := Objects(c); !slices.Equal(got, used) {
		t.Fatalf("Objects(%v) = %v, want %v", c, got, used)
	}
	if frames, n, free := Account(c); frames != wantFrames || n != len(used) || free != wantFree {
		t.Fatalf("Account(%v) = %d, %d, %d, want %d, %d, %d", c, frames, n, free, wantFrames, len(used), wantFree)
	}
	for _, n := range append(limits(), wantFree-1, wantFree, wantFree+1, wantFree+c.Objects, wantFree+c.Objects+1) {
		if got := Need(c, n); !isNeed(c, n, got) {
			t.Fatalf("Need(%v, %d) = %d", c, n, got)
		}
	}
}

func deepCopy(c api.SlabCache) api.SlabCache {
	out := api.SlabCache{Objects: c.Objects}
	for _, s := range c.Slabs {
		out.Slabs = append(out.Slabs, api.Slab{Frame: s.Frame, Used: slices.Clone(s.Used)})
	}
	return out
}

// same reports whether two caches are equal, where nil and empty lists are the same.
func same(c, d api.SlabCache) bool {
	return c.Objects == d.Objects && slices.EqualFunc(c.Slabs, d.Slabs, func(s, t api.Slab) bool {
		return s.Frame == t.Frame && slices.Equal(s.Used, t.Used)
	})
}
