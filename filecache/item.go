package filecache

import (
	"iter"

	"estovers/api"
	"estovers/radix"
)

// none is the number of no frame, no clock and no page.
const none = -1

// item is what a cache has at a page: a frame has a positive value, a shadow a negative one, and 0 stands for neither.
type item struct {
	value  int
	tagged bool
}

func (x item) isFrame() bool  { return x.value > 0 }
func (x item) isShadow() bool { return x.value < 0 }

// value returns the value of a frame.
func value(frame int) int { return frame + 1 }

// frame returns the frame of the item, or none.
func (x item) frame() int {
	if x.isFrame() {
		return x.value - 1
	}
	return none
}

// shadow returns the value of the shadow with a clock.
func shadow(clock int) int { return -1 - clock }

// clock returns the clock of the shadow, or none.
func (x item) clock() int {
	if x.isShadow() {
		return -1 - x.value
	}
	return none
}

// isFrameNumber reports whether a machine can have this frame.
func isFrameNumber(frame int) bool { return frame >= 0 && frame < api.MaxFrames }

// find returns what a cache has at a page, or the error of Check, or ErrRange.
func find(r api.Radix, index int) (item, int) {
	if e := Check(r); e != api.OK {
		return item{}, e
	}
	if index < 0 || index >= api.RadixMax {
		return item{}, api.ErrRange
	}
	tagged := radix.Tagged(r, index, api.TagDirty) || radix.Tagged(r, index, api.TagWriteback)
	return item{value: radix.Get(r, index), tagged: tagged}, api.OK
}

// items yields the pages of a valid tree that have something, in ascending order, with what they have.
func items(r api.Radix) iter.Seq2[int, item] {
	return func(yield func(page int, x item) bool) {
		visit(r.Root, 0, yield)
	}
}

// visit yields what is in a node or below it until yield returns false, and returns whether it never did. The number of a node counts the nodes of its level, of which each has as many entries.
func visit(n api.RadixNode, number int, yield func(page int, x item) bool) bool {
	tags := n.Tags[api.TagDirty] | n.Tags[api.TagWriteback]
	for d, v := range n.Values {
		x := item{value: v, tagged: tags>>d&1 == 1}
		if v != 0 && !yield(number*api.Fan+d, x) {
			return false
		}
	}
	for d, kid := range n.Kids {
		if !visit(kid, number*api.Fan+d, yield) {
			return false
		}
	}
	return true
}
