package rangetree

import "estovers/api"

// every reports whether a condition holds for t and for every tree inside of it. It is not recursive, and leaves out lists of kids that it has visited, since a tree of any form can be very deep, and a list of kids can contain itself.
func every(t api.RegionTree, holds func(api.RegionTree) bool) bool {
	seen := map[*api.RegionTree]bool{}
	rest := []*api.RegionTree{&t}
	for visits := 0; len(rest) > 0; visits++ {
		at := rest[len(rest)-1]
		rest = rest[:len(rest)-1]
		if !holds(*at) {
			return false
		}
		if len(at.Kids) == 0 || seen[&at.Kids[0]] {
			continue
		}
		// A tree with no more regions than pages ends without this memory, which would take most of the time.
		if visits > 2*api.Pages {
			seen[&at.Kids[0]] = true
		}
		for n := range at.Kids {
			rest = append(rest, &at.Kids[n])
		}
	}
	return true
}

// isFormed reports whether t is an empty tree, or a node with two kids.
func isFormed(t api.RegionTree) bool {
	if t.Height != 0 {
		return len(t.Kids) == 2
	}
	return t.First == 0 && t.Last == 0 && t.Gap == 0 && t.Region == api.Region{} && len(t.Kids) == 0
}

// hasValidRegion reports whether t is empty or a node with a valid region.
func hasValidRegion(t api.RegionTree) bool { return isEmpty(t) || isValid(t.Region) }

// ascends reports whether the regions of t start at a page or behind it and each one not before the end of the one before it; it also returns the end of the last one. The regions must be valid.
func ascends(t api.RegionTree, from, depth int) (int, bool) {
	if isEmpty(t) {
		return from, true
	}
	// The regions of more nested nodes than there are pages cannot be all apart. This also ends the walk of a tree that contains itself.
	if depth == 0 {
		return 0, false
	}
	from, ok := ascends(t.Kids[0], from, depth-1)
	if !ok || t.Region.Start < from {
		return 0, false
	}
	return ascends(t.Kids[1], end(t.Region), depth-1)
}

// hasNumbers reports whether the numbers of all nodes of t are as defined, and the heights of their kids differ by at most 1.
func hasNumbers(t api.RegionTree) bool {
	if isEmpty(t) {
		return true
	}
	l, r := t.Kids[0], t.Kids[1]
	if !hasNumbers(l) || !hasNumbers(r) {
		return false
	}
	n := summary(l, t.Region, r)
	same := t.Height == n.Height && t.First == n.First && t.Last == n.Last && t.Gap == n.Gap
	return same && l.Height <= r.Height+1 && r.Height <= l.Height+1
}
