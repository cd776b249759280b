package percpu

import "estovers/api"

// checkFrames returns OK, ErrRange if a frame of the lists does not exist, or ErrExist if one occurs twice.
func checkFrames(c api.CpuCache) int {
	count := 0
	for _, list := range c.Lists {
		for _, frame := range list {
			if !isFrame(frame) {
				return api.ErrRange
			}
		}
		count += len(list)
	}
	if len(framesOf(c)) < count {
		return api.ErrExist
	}
	return api.OK
}

// checkZone returns the error of Check for the number of lists of c, ErrRange if a zone has no list, or OK.
func checkZone(c api.CpuCache, zone int) int {
	err := Check(c, len(c.Lists))
	if err == api.OK && (zone < 0 || zone >= len(c.Lists)) {
		return api.ErrRange
	}
	return err
}

// checkNew returns OK, or the error of the first frame to be added that has one: ErrRange, ErrExist.
func checkNew(c api.CpuCache, frames []int) int {
	seen := framesOf(c)
	for _, frame := range frames {
		switch {
		case !isFrame(frame):
			return api.ErrRange
		case seen[frame]:
			return api.ErrExist
		}
		seen[frame] = true
	}
	return api.OK
}

// framesOf returns the set of the frames in the lists.
func framesOf(c api.CpuCache) map[int]bool {
	set := map[int]bool{}
	for _, list := range c.Lists {
		for _, frame := range list {
			set[frame] = true
		}
	}
	return set
}

// clone returns a copy of c. Its lists share no memory with those of c, nor with each other.
func clone(c api.CpuCache) api.CpuCache {
	zones := len(c.Lists)
	out := api.CpuCache{Lists: make([][]int, zones)}
	for zone := range zones {
		out.Lists[zone] = make([]int, len(c.Lists[zone]))
		copy(out.Lists[zone], c.Lists[zone])
	}
	return out
}

func isZoneCount(n int) bool { return n >= 1 && n <= api.MaxZones }

func isFrame(n int) bool { return n >= 0 && n < api.MaxFrames }
