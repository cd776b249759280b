package buddy

import (
	"slices"

	"estovers/api"
)

// firstOf returns the first frame of the block of an order that contains a frame.
func firstOf(frame, order int) int { return frame &^ (1<<order - 1) }

// find returns the place of a free block in its list, or where it would be, and whether it is there.
func find(z api.Zone, frame, order int) (int, bool) {
	return slices.BinarySearch(z.Free[order], frame)
}

// orderOf returns the order of the free block that contains a frame, or -1.
func orderOf(z api.Zone, frame int) int {
	for order := range z.Free {
		if _, ok := find(z, firstOf(frame, order), order); ok {
			return order
		}
	}
	return -1
}

// countBelow returns the number of frames in free blocks of the orders below one.
func countBelow(z api.Zone, order int) int {
	n := 0
	for below, l := range z.Free[:order] {
		n += len(l) << below
	}
	return n
}

func insert(z *api.Zone, frame, order int) {
	i, _ := find(*z, frame, order)
	z.Free[order] = slices.Insert(z.Free[order], i, frame)
}

// remove removes a free block, and reports whether it was there.
func remove(z *api.Zone, frame, order int) bool {
	i, ok := find(*z, frame, order)
	if ok {
		z.Free[order] = slices.Delete(z.Free[order], i, i+1)
	}
	return ok
}

// join makes a block free of which no frame was, in one with its buddies.
func join(z *api.Zone, frame, order int) {
	for order < api.MaxOrder && remove(z, frame^1<<order, order) {
		order++
		frame = firstOf(frame, order)
	}
	insert(z, frame, order)
}

// without returns z without the block of an order that contains a frame. It is a part of a free block of the order from, which is halved until only this part is left.
func without(z api.Zone, frame, from, order int) api.Zone {
	out := clone(z)
	remove(&out, firstOf(frame, from), from)
	for from > order {
		from--
		insert(&out, firstOf(frame, from)^1<<from, from)
	}
	return out
}

func clone(z api.Zone) api.Zone {
	// z is a copy already, but for the elements of its lists.
	for order, l := range z.Free {
		z.Free[order] = slices.Clone(l)
	}
	return z
}
