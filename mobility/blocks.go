package mobility

import (
	"slices"

	"estovers/api"
	"estovers/buddy"
)

// blockFrames is the number of frames in a page block.
const blockFrames = 1 << api.MaxOrder

// noType is the type of what is no page block, and that for which a frame is held that is not held.
const noType = -1

// isInRange reports whether there may be page blocks of these types from start on.
func isInRange(start int, types []int) bool {
	if len(types) < 1 || len(types) > api.MaxFrames/blockFrames {
		return false
	}
	// Start may be so great that the end is not an int.
	isStart := start >= 0 && start%blockFrames == 0 && start <= api.MaxFrames-len(types)*blockFrames
	return isStart && !slices.ContainsFunc(types, func(kind int) bool { return !isType(kind) })
}

// checkList returns OK, or the error of the first element that has one of a list of blocks of an order and a type: ErrForm, ErrOrder.
func checkList(p api.PageBlocks, l []int, order, kind int) int {
	for i, frame := range l {
		switch {
		// A block that begins in a page block is in it: no block is greater.
		case frame%(1<<order) != 0 || typeOf(p, frame) != kind:
			return api.ErrForm
		case i > 0 && frame <= l[i-1]:
			return api.ErrOrder
		}
	}
	return api.OK
}

// typeOf returns the type of the page block that contains a frame, or noType.
func typeOf(p api.PageBlocks, frame int) int {
	if frame < p.Start || frame >= p.Start+len(p.Types)*blockFrames {
		return noType
	}
	return p.Types[indexOf(p, frame)]
}

// indexOf returns the number of the page block that contains a frame.
func indexOf(p api.PageBlocks, frame int) int { return (frame - p.Start) / blockFrames }

// converted returns the types when the page block that contains a frame has the type kind.
func converted(p api.PageBlocks, frame, kind int) []int {
	types := slices.Clone(p.Types)
	types[indexOf(p, frame)] = kind
	return types
}

// find returns the first frame and the order of the free block that serves a request; the order -1 if there is none.
func find(p api.PageBlocks, order, kind int) (int, int) {
	for from := order; from <= api.MaxOrder; from++ {
		if l := p.Free[kind][from]; len(l) > 0 {
			return l[0], from
		}
	}
	for from := api.MaxOrder; from >= order; from-- {
		for _, other := range fallbacks[kind] {
			if l := p.Free[other][from]; len(l) > 0 {
				return l[0], from
			}
		}
	}
	return 0, -1
}

// whole returns the page blocks as one zone. Blocks are split and joined in it, since no block reaches from a page block into another one, whatever their types are.
func whole(p api.PageBlocks) api.Zone {
	z := api.Zone{Kind: api.ZoneNormal, Start: p.Start, Count: len(p.Types) * blockFrames}
	for _, lists := range p.Free {
		for order, l := range lists {
			z.Free[order] = append(z.Free[order], l...)
		}
	}
	for _, l := range z.Free {
		slices.Sort(l)
	}
	return z
}

// divide returns a zone as page blocks of these types.
func divide(z api.Zone, types []int) api.PageBlocks {
	p := api.PageBlocks{Start: z.Start, Types: slices.Clone(types)}
	for order, l := range z.Free {
		for _, frame := range l {
			lists := &p.Free[typeOf(p, frame)]
			lists[order] = append(lists[order], frame)
		}
	}
	return p
}

// without returns a valid zone in which a block is not free any more that was a free block or a part of one.
func without(z api.Zone, frame, order int) api.Zone {
	frames := buddy.Frames(z)
	i, _ := slices.BinarySearch(frames, frame)
	z, _ = buddy.Build(z, slices.Delete(frames, i, i+1<<order))
	return z
}

func isType(n int) bool { return n >= 0 && n < api.Types }
