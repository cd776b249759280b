package addrspace

import (
	"fmt"
	"slices"
	"testing"

	"estovers/api"
	"estovers/rangetree"
	"estovers/region"
)

// has reports whether a number has a bit.
func has(n, bit int) bool { return n/bit%2 == 1 }

// checked is the promise of Check.
func checked(t api.RegionTree) int {
	if e := rangetree.Check(t); e != api.OK {
		return e
	}
	l := rangetree.List(t)
	for _, r := range l {
		if e := region.Check(r); e != api.OK {
			return e
		}
	}
	for i, r := range l {
		if i > 0 && region.Mergeable(l[i-1], r) {
			return api.ErrState
		}
	}
	if len(l) > 12 {
		return api.ErrLimit
	}
	return api.OK
}

// normal returns a normalized list, where the last neighbours are merged first.
func normal(l []api.Region) []api.Region {
	for i := len(l) - 1; i > 0; i-- {
		if m, e := region.Merge(l[i-1], l[i]); e == api.OK {
			return normal(slices.Concat(l[:i-1], []api.Region{m}, l[i+1:]))
		}
	}
	return l
}

// built is the last step of all functions that return a tree.
func built(l []api.Region) (api.RegionTree, int) {
	l = normal(l)
	if len(l) > 12 {
		return api.RegionTree{}, api.ErrLimit
	}
	return rangetree.Build(l)
}

// found is the promise of Find.
func found(t api.RegionTree, page int) (api.Region, bool) {
	if checked(t) == api.OK {
		for _, r := range rangetree.List(t) {
			if contains(r, page) {
				return r, true
			}
		}
	}
	return api.Region{}, false
}

// contains reports whether a valid region has a page.
func contains(r api.Region, page int) bool { return page >= r.Start && page < r.Start+r.Pages }

// isFree reports whether none of some regions has a page.
func isFree(l []api.Region, page int) bool {
	return !slices.ContainsFunc(l, func(r api.Region) bool { return contains(r, page) })
}

// counted is the promise of Count.
func counted(t api.RegionTree) int {
	if checked(t) != api.OK {
		return 0
	}
	return len(rangetree.List(t))
}

// placed is the promise of Place.
func placed(t api.RegionTree, pages int) int {
	if checked(t) != api.OK || pages < 1 {
		return -1
	}
	run, l := 0, rangetree.List(t)
	for page := range 512 {
		run++
		if !isFree(l, page) {
			run = 0
		}
		if run == pages {
			return page - pages + 1
		}
	}
	return -1
}

// mapped is the promise of Map.
func mapped(t api.RegionTree, r api.Region) (api.RegionTree, int) {
	if e := checked(t); e != api.OK {
		return api.RegionTree{}, e
	}
	if e := region.Check(r); e != api.OK {
		return api.RegionTree{}, e
	}
	var below, above []api.Region
	for _, x := range rangetree.List(t) {
		switch {
		case region.Overlap(x, r):
			return api.RegionTree{}, api.ErrExist
		case x.Start < r.Start:
			below = append(below, x)
		default:
			above = append(above, x)
		}
	}
	return built(slices.Concat(below, []api.Region{r}, above))
}

// refused returns the errors that Unmap, Protect and Lock have in common.
func refused(t api.RegionTree, page, count int) int {
	if e := checked(t); e != api.OK {
		return e
	}
	if count < 1 {
		return api.ErrArg
	}
	if page < 0 || page > 512 || count > 512 || page+count > 512 {
		return api.ErrRange
	}
	return api.OK
}

// unmapped is the promise of Unmap.
func unmapped(t api.RegionTree, page, count int) (api.RegionTree, int) {
	if e := refused(t, page, count); e != api.OK {
		return api.RegionTree{}, e
	}
	var l []api.Region
	for _, r := range rangetree.List(t) {
		left, _ := region.Cut(r, page, count)
		l = append(l, left...)
	}
	return built(l)
}

// part returns the part of r from a page up to another one, which is not in it.
func part(r api.Region, from, to int) api.Region {
	out := r
	out.Start, out.Pages = from, to-from
	if r.File >= 0 {
		out.Index = r.Index + from - r.Start
	}
	if from > r.Start && has(r.Flags, 2) {
		out.Flags -= 2
	}
	return out
}

// altered returns the regions of t, where the regions with pages in a range that are not as wanted are divided by it, and their parts in it become so; ErrFault.
func altered(t api.RegionTree, page, count int, wanted func(api.Region) bool, become func(*api.Region)) (api.RegionTree, int) {
	all := rangetree.List(t)
	for at := page; at < page+count; at++ {
		if isFree(all, at) {
			return api.RegionTree{}, api.ErrFault
		}
	}
	var l []api.Region
	for _, r := range all {
		end := r.Start + r.Pages
		from, to := max(r.Start, page), min(end, page+count)
		if from >= to || wanted(r) {
			l = append(l, r)
			continue
		}
		if r.Start < from {
			l = append(l, part(r, r.Start, from))
		}
		in := part(r, from, to)
		become(&in)
		l = append(l, in)
		if to < end {
			l = append(l, part(r, to, end))
		}
	}
	return built(l)
}

// protected is the promise of Protect.
func protected(t api.RegionTree, page, count, prot int) (api.RegionTree, int) {
	if e := refused(t, page, count); e != api.OK {
		return api.RegionTree{}, e
	}
	if prot != 1 && prot != 3 {
		return api.RegionTree{}, api.ErrArg
	}
	return altered(t, page, count, func(r api.Region) bool { return r.Prot == prot }, func(r *api.Region) { r.Prot = prot })
}

// locked is the promise of Lock.
func locked(t api.RegionTree, page, count int, on bool) (api.RegionTree, int) {
	if e := refused(t, page, count); e != api.OK {
		return api.RegionTree{}, e
	}
	return altered(t, page, count, func(r api.Region) bool { return has(r.Flags, 4) == on }, func(r *api.Region) {
		if on {
			r.Flags += 4
		} else {
			r.Flags -= 4
		}
	})
}

// stackAbove returns the index of the region that Grow extends to a page, or the error of Grow.
func stackAbove(t api.RegionTree, page int) (int, int) {
	if e := checked(t); e != api.OK {
		return 0, e
	}
	if page < 0 || page > 511 {
		return 0, api.ErrRange
	}
	l := rangetree.List(t)
	if !isFree(l, page) {
		return 0, api.ErrExist
	}
	above := slices.IndexFunc(l, func(r api.Region) bool { return r.Start > page })
	if above < 0 || !has(l[above].Flags, 2) || !isFree(l, page-1) {
		return 0, api.ErrFault
	}
	return above, api.OK
}

// grown is the promise of Grow.
func grown(t api.RegionTree, page int) (api.RegionTree, int) {
	i, e := stackAbove(t, page)
	if e != api.OK {
		return api.RegionTree{}, e
	}
	l := rangetree.List(t)
	end := l[i].Start + l[i].Pages
	l[i].Start, l[i].Pages = page, end-page
	return rangetree.Build(l)
}

// sight is what a page of an address space has: the protection, the flags but FlagGrows, the file and the page of the file; zero for a page in no region.
type sight struct{ prot, flags, file, index int }

// sights returns what all pages have.
func sights(t api.RegionTree) [512]sight {
	var out [512]sight
	for _, r := range rangetree.List(t) {
		for page := r.Start; page < r.Start+r.Pages; page++ {
			out[page] = sight{r.Prot, r.Flags &^ 2, r.File, region.Page(r, page)}
		}
	}
	return out
}

// action is a call, a direct reading of its promise, and the range of pages that it is about with what they have afterwards.
type action struct {
	name, what string
	do, read   func(t api.RegionTree) (api.RegionTree, int)
	from, to   int
	after      func(before sight, page int) sight
}

func mapAction(r api.Region) action {
	return action{"Map", fmt.Sprintf("Map(%v)", r), func(t api.RegionTree) (api.RegionTree, int) { return Map(t, r) },
		func(t api.RegionTree) (api.RegionTree, int) { return mapped(t, r) },
		r.Start, r.Start + r.Pages, func(_ sight, page int) sight { return sight{r.Prot, r.Flags &^ 2, r.File, region.Page(r, page)} }}
}

func unmapAction(page, count int) action {
	return action{"Unmap", fmt.Sprintf("Unmap(%d, %d)", page, count), func(t api.RegionTree) (api.RegionTree, int) { return Unmap(t, page, count) },
		func(t api.RegionTree) (api.RegionTree, int) { return unmapped(t, page, count) },
		page, page + count, func(sight, int) sight { return sight{} }}
}

func protectAction(page, count, prot int) action {
	return action{"Protect", fmt.Sprintf("Protect(%d, %d, %d)", page, count, prot), func(t api.RegionTree) (api.RegionTree, int) { return Protect(t, page, count, prot) },
		func(t api.RegionTree) (api.RegionTree, int) { return protected(t, page, count, prot) },
		page, page + count, func(s sight, _ int) sight {
			s.prot = prot
			return s
		}}
}

func lockAction(page, count int, on bool) action {
	return action{"Lock", fmt.Sprintf("Lock(%d, %d, %t)", page, count, on), func(t api.RegionTree) (api.RegionTree, int) { return Lock(t, page, count, on) },
		func(t api.RegionTree) (api.RegionTree, int) { return locked(t, page, count, on) },
		page, page + count, func(s sight, _ int) sight {
			s.flags &^= 4
			if on {
				s.flags += 4
			}
			return s
		}}
}

// growAction is a call of Grow for a tree in which it extends a region down from a page.
func growAction(tree api.RegionTree, page int) action {
	from := page
	var stack api.Region
	if i, e := stackAbove(tree, page); e == api.OK {
		stack = rangetree.List(tree)[i]
	}
	return action{"Grow", fmt.Sprintf("Grow(%d)", page), func(t api.RegionTree) (api.RegionTree, int) { return Grow(t, page) },
		func(t api.RegionTree) (api.RegionTree, int) { return grown(t, page) },
		from, stack.Start, func(sight, int) sight { return sight{stack.Prot, stack.Flags &^ 2, -1, -1} }}
}

// same reports whether two trees are equal, where nil and empty lists of kids are.
func same(a, b api.RegionTree) bool {
	if a.Height != b.Height || a.First != b.First || a.Last != b.Last || a.Gap != b.Gap || a.Region != b.Region {
		return false
	}
	return slices.EqualFunc(a.Kids, b.Kids, same)
}

// expect compares an action with the direct reading of its promise.
func expect(t *testing.T, tree api.RegionTree, a action) (api.RegionTree, int) {
	t.Helper()
	got, e := a.do(tree)
	want, wantError := a.read(tree)
	if !same(got, want) || e != wantError {
		t.Fatalf("%s of %v = %v, %d, want %v, %d", a.what, rangetree.List(tree), rangetree.List(got), e, rangetree.List(want), wantError)
	}
	return got, e
}

// expectConsequences compares an action also with what P23.7 says of its result.
func expectConsequences(t *testing.T, tree api.RegionTree, a action) (api.RegionTree, int) {
	t.Helper()
	got, e := expect(t, tree, a)
	if e != api.OK {
		return got, e
	}
	if Check(got) != api.OK {
		t.Fatalf("%s of %v = %v, which is not valid", a.what, rangetree.List(tree), rangetree.List(got))
	}
	before, after := sights(tree), sights(got)
	for page, s := range before {
		if page >= a.from && page < a.to {
			s = a.after(s, page)
		}
		if after[page] != s {
			t.Fatalf("%s of %v: page %d has %v, want %v", a.what, rangetree.List(tree), page, after[page], s)
		}
	}
	return got, e
}

// expectLooks compares Check, Find, Count and Place with their promises.
func expectLooks(t *testing.T, tree api.RegionTree, numbers []int) {
	t.Helper()
	if got, want := Check(tree), checked(tree); got != want {
		t.Fatalf("Check(%v) = %d, want %d", rangetree.List(tree), got, want)
	}
	if got, want := Count(tree), counted(tree); got != want {
		t.Fatalf("Count(%v) = %d, want %d", rangetree.List(tree), got, want)
	}
	for _, n := range numbers {
		got, ok := Find(tree, n)
		want, wantOk := found(tree, n)
		if got != want || ok != wantOk {
			t.Fatalf("Find(%v, %d) = %v, %t", rangetree.List(tree), n, got, ok)
		}
		if got, want := Place(tree, n), placed(tree, n); got != want {
			t.Fatalf("Place(%v, %d) = %d, want %d", rangetree.List(tree), n, got, want)
		}
	}
}
