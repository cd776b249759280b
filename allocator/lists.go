package allocator

import (
	"slices"

	"estovers/api"
	"estovers/buddy"
	"estovers/percpu"
)

// The functions here change the zones and the caches of an allocator that is a copy, and valid. The lower layers return no error then, except that nothing is left.

// takeSingle takes a frame of a zone, which has one, by the cache of a processor.
func takeSingle(a api.Allocator, cpu, zone int) int {
	if len(a.Caches[cpu].Lists[zone]) == 0 {
		frames := takeBatch(a, zone)
		if len(frames) == 0 {
			// The list of the processor itself is empty: the others give.
			drain(a, zone)
			frames = takeBatch(a, zone)
		}
		a.Caches[cpu], _ = percpu.Refill(a.Caches[cpu], zone, frames)
	}
	c, frame, _ := percpu.Take(a.Caches[cpu], zone)
	a.Caches[cpu] = c
	return frame
}

// takeBatch takes single frames out of the blocks of a zone, a batch of them if there are so many.
func takeBatch(a api.Allocator, zone int) []int {
	var frames []int
	for range a.Batch {
		z, frame, err := buddy.Alloc(a.Zones[zone], 0)
		if err != api.OK {
			break
		}
		a.Zones[zone] = z
		frames = append(frames, frame)
	}
	return frames
}

// drain empties the lists of a zone in all caches into the zone.
func drain(a api.Allocator, zone int) {
	for cpu := range a.Caches {
		c, frames, _ := percpu.Drain(a.Caches[cpu], zone)
		a.Caches[cpu] = c
		giveBack(a, zone, frames)
	}
}

// giveBack makes frames free in their zone.
func giveBack(a api.Allocator, zone int, frames []int) {
	for _, frame := range frames {
		a.Zones[zone], _ = buddy.Free(a.Zones[zone], frame, 0)
	}
}

// remove takes a free frame out of its zone, or out of the list of the cache that it is in.
func remove(a api.Allocator, zone, frame int) {
	if z, err := buddy.Take(a.Zones[zone], frame); err == api.OK {
		a.Zones[zone] = z
		return
	}
	for _, c := range a.Caches {
		if i := slices.Index(c.Lists[zone], frame); i >= 0 {
			c.Lists[zone] = slices.Delete(c.Lists[zone], i, i+1)
		}
	}
}

// clone returns a copy of a that shares no memory with it.
func clone(a api.Allocator) api.Allocator {
	a.Nodes = slices.Clone(a.Nodes)
	a.Zones = slices.Clone(a.Zones)
	for zone := range a.Zones {
		for order, l := range a.Zones[zone].Free {
			a.Zones[zone].Free[order] = slices.Clone(l)
		}
	}
	a.Caches = slices.Clone(a.Caches)
	for cpu, c := range a.Caches {
		a.Caches[cpu].Lists = slices.Clone(c.Lists)
		for zone, l := range c.Lists {
			a.Caches[cpu].Lists[zone] = slices.Clone(l)
		}
	}
	return a
}
