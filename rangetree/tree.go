package rangetree

import "estovers/api"

// isValid reports whether the pages of r exist, and are at least one.
func isValid(r api.Region) bool {
	return r.Start >= 0 && r.Pages >= 1 && r.Start <= api.Pages-r.Pages
}

// end returns the page behind the last one of r.
func end(r api.Region) int { return r.Start + r.Pages }

func isEmpty(t api.RegionTree) bool { return t.Height == 0 }

// clone returns a copy of a valid tree that shares no memory with it.
func clone(t api.RegionTree) api.RegionTree {
	if isEmpty(t) {
		return api.RegionTree{}
	}
	t.Kids = []api.RegionTree{clone(t.Kids[0]), clone(t.Kids[1])}
	return t
}

// node returns the tree with the kids l and r, the region x, and the numbers that follow from them.
func node(l api.RegionTree, x api.Region, r api.RegionTree) api.RegionTree {
	t := summary(l, x, r)
	t.Kids = []api.RegionTree{l, r}
	return t
}

// summary returns the node with the kids l and r and the region x, but without its list of kids.
func summary(l api.RegionTree, x api.Region, r api.RegionTree) api.RegionTree {
	t := api.RegionTree{
		Height: 1 + max(l.Height, r.Height),
		First:  x.Start,
		Last:   end(x),
		Gap:    max(0, l.Gap, r.Gap),
		Region: x,
	}
	if !isEmpty(l) {
		t.First = l.First
		t.Gap = max(t.Gap, x.Start-l.Last)
	}
	if !isEmpty(r) {
		t.Last = r.Last
		t.Gap = max(t.Gap, r.First-end(x))
	}
	return t
}

// balanced returns the node with the kids l and r and the region x, after the rotation that it needs.
func balanced(l api.RegionTree, x api.Region, r api.RegionTree) api.RegionTree {
	switch {
	case l.Height > r.Height+1:
		return lowerRight(l, x, r)
	case r.Height > l.Height+1:
		return lowerLeft(l, x, r)
	}
	return node(l, x, r)
}

// lowerRight rotates a node whose left kid is too high.
func lowerRight(l api.RegionTree, x api.Region, r api.RegionTree) api.RegionTree {
	a, b := l.Kids[0], l.Kids[1]
	if a.Height >= b.Height {
		return node(a, l.Region, node(b, x, r))
	}
	return node(node(a, l.Region, b.Kids[0]), b.Region, node(b.Kids[1], x, r))
}

// lowerLeft rotates a node whose right kid is too high.
func lowerLeft(l api.RegionTree, x api.Region, r api.RegionTree) api.RegionTree {
	b, c := r.Kids[0], r.Kids[1]
	if c.Height >= b.Height {
		return node(node(l, x, b), r.Region, c)
	}
	return node(node(l, x, b.Kids[0]), b.Region, node(b.Kids[1], r.Region, c))
}

// insert returns t with a region that overlaps none of t. The result may contain trees inside of t.
func insert(t api.RegionTree, r api.Region) api.RegionTree {
	if isEmpty(t) {
		return node(t, r, api.RegionTree{})
	}
	if r.Start < t.Region.Start {
		return balanced(insert(t.Kids[0], r), t.Region, t.Kids[1])
	}
	return balanced(t.Kids[0], t.Region, insert(t.Kids[1], r))
}

// remove returns t without the region that starts at a page, which must be in t. The result may contain trees inside of t.
func remove(t api.RegionTree, start int) api.RegionTree {
	a, b := t.Kids[0], t.Kids[1]
	switch {
	case start < t.Region.Start:
		return balanced(remove(a, start), t.Region, b)
	case start > t.Region.Start:
		return balanced(a, t.Region, remove(b, start))
	case isEmpty(a):
		return b
	case isEmpty(b):
		return a
	}
	m := firstRegion(b)
	return balanced(a, m, remove(b, m.Start))
}

// firstRegion returns the first region of a tree that is not empty.
func firstRegion(t api.RegionTree) api.Region {
	if isEmpty(t.Kids[0]) {
		return t.Region
	}
	return firstRegion(t.Kids[0])
}

// next returns the first region of a valid tree that ends behind a page, and whether there is one.
func next(t api.RegionTree, page int) (api.Region, bool) {
	switch {
	case isEmpty(t) || t.Last <= page:
		return api.Region{}, false
	case !isEmpty(t.Kids[0]) && t.Kids[0].Last > page:
		return next(t.Kids[0], page)
	case end(t.Region) > page:
		return t.Region, true
	}
	return next(t.Kids[1], page)
}

// appendRegions appends the regions of a valid tree to a list.
func appendRegions(l []api.Region, t api.RegionTree) []api.Region {
	if isEmpty(t) {
		return l
	}
	l = appendRegions(l, t.Kids[0])
	l = append(l, t.Region)
	return appendRegions(l, t.Kids[1])
}

// gap returns the lowest start of a number of free pages among the pages lo to hi-1, or -1.
func gap(t api.RegionTree, lo, hi, pages int) int {
	if hi-lo < pages {
		return -1
	}
	if isEmpty(t) {
		return lo
	}
	// No free range is larger than the largest one before, inside of, or behind all regions of t.
	if max(t.First-lo, t.Gap, hi-t.Last) < pages {
		return -1
	}
	if found := gap(t.Kids[0], lo, min(hi, t.Region.Start), pages); found >= 0 {
		return found
	}
	return gap(t.Kids[1], max(lo, end(t.Region)), hi, pages)
}
