package allocator

import (
	"slices"

	"estovers/api"
	"estovers/buddy"
	"estovers/percpu"
	"estovers/zonelist"
)

// maxHigh is the greatest number of frames in a list of a cache.
const maxHigh = 64

// isMachine reports whether the machine is in range.
func isMachine(nodes []int, batch, high, zones int) bool {
	if len(nodes) < 1 || len(nodes) > api.MaxCpus || zones < 1 || zones > api.MaxZones {
		return false
	}
	isNoNode := func(n int) bool { return n < 0 || n >= api.MaxNodes }
	return batch >= 1 && batch <= high && high <= maxHigh && !slices.ContainsFunc(nodes, isNoNode)
}

// checkZones returns OK, or the error of the first zone that has one: that of buddy.Check, ErrOrder.
func checkZones(zones []api.Zone) int {
	start := 0
	for _, z := range zones {
		if err := buddy.Check(z); err != api.OK {
			return err
		}
		if z.Start != start {
			return api.ErrOrder
		}
		start += z.Count
	}
	return api.OK
}

// checkCaches returns OK, or the error of the first cache that has one: that of percpu.Check, ErrLimit.
func checkCaches(a api.Allocator) int {
	isLong := func(l []int) bool { return len(l) > a.High }
	for _, c := range a.Caches {
		if err := percpu.Check(c, len(a.Zones)); err != api.OK {
			return err
		}
		if slices.ContainsFunc(c.Lists, isLong) {
			return api.ErrLimit
		}
	}
	return api.OK
}

// checkCached returns OK, or the error of the first frame in the caches that has one: ErrRange, ErrExist.
func checkCached(a api.Allocator) int {
	var free [api.MaxFrames]bool
	for _, z := range a.Zones {
		for _, frame := range buddy.Frames(z) {
			free[frame] = true
		}
	}
	for _, c := range a.Caches {
		for zone, l := range c.Lists {
			for _, frame := range l {
				switch {
				case zoneOf(a, frame) != zone:
					return api.ErrRange
				case free[frame]:
					return api.ErrExist
				}
				free[frame] = true
			}
		}
	}
	return api.OK
}

// zonesFor returns the zones for an allocation in the order in which they are tried: the error of Check, ErrRange if there is no such processor.
func zonesFor(a api.Allocator, cpu int, kernel bool) ([]int, int) {
	if err := Check(a); err != api.OK {
		return nil, err
	}
	if !isCpu(a, cpu) {
		return nil, api.ErrRange
	}
	return zonelist.Order(a.Zones, a.Nodes[cpu], kernel)
}

func isCpu(a api.Allocator, cpu int) bool { return cpu >= 0 && cpu < len(a.Nodes) }

// zoneOf returns the number of the zone of a frame, or -1.
func zoneOf(a api.Allocator, frame int) int {
	return slices.IndexFunc(a.Zones, func(z api.Zone) bool {
		return frame >= z.Start && frame < z.Start+z.Count
	})
}

// isFree reports whether a frame is in its zone or in a cache.
func isFree(a api.Allocator, frame int) bool {
	zone := zoneOf(a, frame)
	return zone >= 0 && (buddy.IsFree(a.Zones[zone], frame) || isCached(a, zone, frame))
}

// isCached reports whether a frame of a zone is in a cache.
func isCached(a api.Allocator, zone, frame int) bool {
	return slices.ContainsFunc(a.Caches, func(c api.CpuCache) bool {
		return slices.Contains(c.Lists[zone], frame)
	})
}

// countOf returns the number of free frames of a zone.
func countOf(a api.Allocator, zone int) int {
	n := buddy.Count(a.Zones[zone])
	for _, c := range a.Caches {
		n += len(c.Lists[zone])
	}
	return n
}

// hasRoom reports whether n frames can be taken of a zone that keeps its minimum.
func hasRoom(a api.Allocator, zone, n int) bool {
	return countOf(a, zone)-n >= a.Zones[zone].Min
}
