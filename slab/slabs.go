package slab

import (
	"cmp"
	"slices"

	"estovers/api"
)

// checkAlloc returns OK or the first error of the arguments of Alloc.
func checkAlloc(c api.SlabCache, n int, frames []int) int {
	if err := Check(c); err != api.OK {
		return err
	}
	if n < 1 || len(frames) != Need(c, n) {
		return api.ErrArg
	}
	var seen [api.MaxFrames]bool
	for _, s := range c.Slabs {
		seen[s.Frame] = true
	}
	for _, frame := range frames {
		switch {
		case !isFrame(frame):
			return api.ErrRange
		case seen[frame]:
			return api.ErrExist
		}
		seen[frame] = true
	}
	return api.OK
}

// find returns the place of the slab in a frame, or where it would be, and whether it is there.
func find(c api.SlabCache, frame int) (int, bool) {
	return slices.BinarySearchFunc(c.Slabs, frame, func(s api.Slab, frame int) int {
		return cmp.Compare(s.Frame, frame)
	})
}

// use makes the first free objects of a slab used, n of them if there are so many, and returns their numbers.
func use(s api.Slab, n int) []int {
	free := numbersOf(s, false)
	out := free[:min(n, len(free))]
	for _, object := range out {
		s.Used[object%len(s.Used)] = true
	}
	return out
}

// numbersOf returns the numbers of the objects of a slab that are used or free, in ascending order.
func numbersOf(s api.Slab, used bool) []int {
	var out []int
	for i, u := range s.Used {
		if u == used {
			out = append(out, s.Frame*len(s.Used)+i)
		}
	}
	return out
}

// clone returns a copy of c that shares no memory with it.
func clone(c api.SlabCache) api.SlabCache {
	c.Slabs = slices.Clone(c.Slabs)
	for i, s := range c.Slabs {
		c.Slabs[i].Used = slices.Clone(s.Used)
	}
	return c
}

func isEmpty(s api.Slab) bool { return !slices.Contains(s.Used, true) }

func isFrame(n int) bool { return n >= 0 && n < api.MaxFrames }

func isNumber(n int) bool { return n >= 1 && n <= api.PageSize }
