package radix

import (
	"iter"

	"estovers/api"
)

const (
	// maxHeight is the height of a tree that contains all valid indices.
	maxHeight = 10
	// digitBits is the number of bits of an index that a level resolves.
	digitBits = 3
	// anyTag stands for entries with and without tags.
	anyTag = -1
)

// entry is what a tree has at an index. Its value is 0 if there is no entry; then it has no tags.
type entry struct {
	value int
	tags  [2]bool
}

// span returns the number of indices of a node of a level, which is 1 for level 0: an entry of a leaf.
func span(level int) int { return 1 << (digitBits * level) }

// digit returns the number of the entry of a node of a level that index i leads to.
func digit(i, level int) int { return i / span(level-1) % api.Fan }

// isAbsent reports whether n is the zero value.
func isAbsent(n api.RadixNode) bool {
	return n.Values == [api.Fan]int{} && n.Tags == [2]int{} && len(n.Kids) == 0
}

// isValid reports whether n is a node of a level, with at least one entry, and all nodes below are as they must be.
func isValid(n api.RadixNode, level int) bool {
	if level == 1 {
		return isValidLeaf(n)
	}
	if len(n.Kids) != api.Fan || n.Values != [api.Fan]int{} {
		return false
	}
	entries := 0
	for _, kid := range n.Kids {
		if isAbsent(kid) {
			continue
		}
		if !isValid(kid, level-1) {
			return false
		}
		entries++
	}
	return entries > 0 && n.Tags == tagsOf(n.Kids)
}

// isValidLeaf reports whether n is a node of level 1 with at least one entry.
func isValidLeaf(n api.RadixNode) bool {
	entries := 0
	for d, v := range n.Values {
		if v != 0 {
			entries |= 1 << d
		}
	}
	return entries != 0 && len(n.Kids) == 0 && (n.Tags[0]|n.Tags[1])&^entries == 0
}

// tagsOf returns the tags of the node with these kids.
func tagsOf(kids []api.RadixNode) [2]int {
	var tags [2]int
	for d, kid := range kids {
		for t := range tags {
			if kid.Tags[t] != 0 {
				tags[t] |= 1 << d
			}
		}
	}
	return tags
}

// isTooHigh reports whether a tree of a lower height could have the entries of r.
func isTooHigh(r api.Radix) bool {
	for d, kid := range r.Root.Kids {
		if d > 0 && !isAbsent(kid) {
			return false
		}
	}
	return r.Height > 1 || r.Height == 1 && isAbsent(r.Root)
}

// lookUp returns what a valid tree has at index i.
func lookUp(r api.Radix, i int) entry {
	if i >= span(r.Height) {
		return entry{}
	}
	n := leafAt(r.Root, r.Height, i)
	d := digit(i, 1)
	x := entry{value: n.Values[d]}
	for t := range x.tags {
		x.tags[t] = n.Tags[t]>>d&1 == 1
	}
	return x
}

// leafAt returns the leaf below n with the index i, or an absent node.
func leafAt(n api.RadixNode, level, i int) api.RadixNode {
	if level <= 1 || isAbsent(n) {
		return n
	}
	return leafAt(n.Kids[digit(i, level)], level-1, i)
}

// replace returns a copy of r that has x at index i.
func replace(r api.Radix, i int, x entry) api.Radix {
	root, height := clone(r.Root), r.Height
	for i >= span(height) || height == 0 {
		height++
		root = above(root, height)
	}
	r = api.Radix{Height: height, Root: put(root, height, i, x)}
	for isTooHigh(r) {
		r = lower(r)
	}
	return r
}

// clone returns a copy of n that shares no memory with it.
func clone(n api.RadixNode) api.RadixNode {
	if len(n.Kids) == 0 {
		n.Kids = nil
		return n
	}
	kids := make([]api.RadixNode, len(n.Kids))
	for d, kid := range n.Kids {
		kids[d] = clone(kid)
	}
	n.Kids = kids
	return n
}

// above returns the node of a level whose first kid is n.
func above(n api.RadixNode, level int) api.RadixNode {
	if level == 1 || isAbsent(n) {
		return n
	}
	kids := make([]api.RadixNode, api.Fan)
	kids[0] = n
	return api.RadixNode{Tags: tagsOf(kids), Kids: kids}
}

// put returns the node n, of which it takes the kids, with x at index i.
func put(n api.RadixNode, level, i int, x entry) api.RadixNode {
	d := digit(i, level)
	if level == 1 {
		return putInLeaf(n, d, x)
	}
	if isAbsent(n) {
		n.Kids = make([]api.RadixNode, api.Fan)
	}
	n.Kids[d] = put(n.Kids[d], level-1, i, x)
	n.Tags = tagsOf(n.Kids)
	for _, kid := range n.Kids {
		if !isAbsent(kid) {
			return n
		}
	}
	return api.RadixNode{}
}

// putInLeaf returns the leaf n with x as its entry d.
func putInLeaf(n api.RadixNode, d int, x entry) api.RadixNode {
	n.Values[d] = x.value
	for t, on := range x.tags {
		n.Tags[t] &^= 1 << d
		if on {
			n.Tags[t] |= 1 << d
		}
	}
	return n
}

// lower returns a tree that is too high with a height that is less by 1.
func lower(r api.Radix) api.Radix {
	if isAbsent(r.Root) {
		return api.Radix{}
	}
	return api.Radix{Height: r.Height - 1, Root: r.Root.Kids[0]}
}

// indices yields, in ascending order, the indices from from on at which a valid tree has an entry with a tag, or any entry.
func indices(r api.Radix, from, tag int) iter.Seq[int] {
	return func(yield func(int) bool) {
		if r.Height > 0 && (isTag(tag) || tag == anyTag) {
			visit(r.Root, r.Height, from, tag, yield)
		}
	}
}

// visit yields the indices of n, counted from its first one, until yield returns false, and returns whether it never did.
func visit(n api.RadixNode, level, from, tag int, yield func(int) bool) bool {
	size := span(level - 1)
	for d := from / size; d < api.Fan; d++ {
		base := d * size
		if !hasEntry(n, level, d, tag) {
			continue
		}
		if level == 1 {
			if !yield(base) {
				return false
			}
			continue
		}
		inside := func(i int) bool { return yield(base + i) }
		if !visit(n.Kids[d], level-1, max(0, from-base), tag, inside) {
			return false
		}
	}
	return true
}

// hasEntry reports whether there is an entry with a tag, or any entry, at d or below the kid d of n.
func hasEntry(n api.RadixNode, level, d, tag int) bool {
	switch {
	case tag != anyTag:
		return n.Tags[tag]>>d&1 == 1
	case level == 1:
		return n.Values[d] != 0
	}
	return !isAbsent(n.Kids[d])
}
