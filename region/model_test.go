package region

import (
	"math/big"
	"slices"
	"testing"

	"estovers/api"
)

// isGreater reports whether a + b is greater than limit, whatever their magnitudes.
func isGreater(a, b, limit int) bool {
	sum := new(big.Int).Add(big.NewInt(int64(a)), big.NewInt(int64(b)))
	return sum.Cmp(big.NewInt(int64(limit))) > 0
}

// has reports whether a number has a bit.
func has(n, bit int) bool { return n/bit%2 == 1 }

// isWrong reports whether ErrArg of Check applies.
func isWrong(r api.Region) bool {
	return r.Pages < 1 ||
		r.Prot != 1 && r.Prot != 3 ||
		r.Flags < 0 || r.Flags > 15 ||
		r.File < -1 || r.File > 3 ||
		has(r.Flags, 1) && r.File == -1 ||
		(has(r.Flags, 2) || has(r.Flags, 8)) && r.File != -1
}

// isOutside reports whether ErrRange of Check applies.
func isOutside(r api.Region) bool {
	return r.Start < 0 || isGreater(r.Start, r.Pages, 512) ||
		r.Index < 0 ||
		r.Index != 0 && r.File == -1 ||
		isGreater(r.Index, r.Pages, 16) && r.File != -1
}

// checked is the promise of Check.
func checked(r api.Region) int {
	if isWrong(r) {
		return api.ErrArg
	}
	if isOutside(r) {
		return api.ErrRange
	}
	return api.OK
}

// pagesOf returns the pages of a region; none if it is not valid.
func pagesOf(r api.Region) []int {
	var out []int
	if checked(r) == api.OK {
		for page := r.Start; len(out) < r.Pages; page++ {
			out = append(out, page)
		}
	}
	return out
}

// ended is the promise of End.
func ended(r api.Region) int {
	if checked(r) != api.OK {
		return 0
	}
	return r.Start + r.Pages
}

// overlapped is the promise of Overlap.
func overlapped(a, b api.Region) bool {
	return slices.ContainsFunc(pagesOf(a), func(page int) bool { return slices.Contains(pagesOf(b), page) })
}

// merged is the promise of Mergeable.
func merged(a, b api.Region) bool {
	switch {
	case checked(a) != api.OK || checked(b) != api.OK:
		return false
	case b.Start != a.Start+a.Pages || has(a.Flags, 2) || has(b.Flags, 2):
		return false
	case a.Prot != b.Prot || a.Flags != b.Flags || a.File != b.File:
		return false
	}
	return a.File == -1 || b.Index == a.Index+a.Pages
}

// part returns what Split makes of the pages from a page to another one, which are pages of r.
func part(r api.Region, from, to int) api.Region {
	out := api.Region{Start: from, Pages: to - from + 1, Prot: r.Prot, Flags: r.Flags, File: r.File}
	if r.File >= 0 {
		out.Index = r.Index + from - r.Start
	}
	if from > r.Start && has(r.Flags, 2) {
		out.Flags -= 2
	}
	return out
}

// splits is the promise of Split.
func splits(r api.Region, page int) (api.Region, api.Region, int) {
	if e := checked(r); e != api.OK {
		return api.Region{}, api.Region{}, e
	}
	if page <= r.Start || page >= r.Start+r.Pages {
		return api.Region{}, api.Region{}, api.ErrRange
	}
	return part(r, r.Start, page-1), part(r, page, r.Start+r.Pages-1), api.OK
}

// rest is the promise of Cut: the runs of the pages that are left.
func rest(r api.Region, page, count int) ([]api.Region, int) {
	if e := checked(r); e != api.OK {
		return nil, e
	}
	if count < 1 {
		return nil, api.ErrArg
	}
	if page < 0 || isGreater(page, count, 512) {
		return nil, api.ErrRange
	}
	left := slices.DeleteFunc(pagesOf(r), func(p int) bool { return p >= page && p < page+count })
	var out []api.Region
	for len(left) > 0 {
		run := 1
		for run < len(left) && left[run] == left[run-1]+1 {
			run++
		}
		out = append(out, part(r, left[0], left[run-1]))
		left = left[run:]
	}
	return out, api.OK
}

// mapped is the promise of Page.
func mapped(r api.Region, page int) int {
	if r.File == -1 || !slices.Contains(pagesOf(r), page) {
		return -1
	}
	return r.Index + page - r.Start
}

// permitted is the promise of Permits.
func permitted(r api.Region, write bool) bool {
	return checked(r) == api.OK && (!write || r.Prot == 3)
}

// expectLooks compares Check, End and Permits with their promises, and Has and Page for these pages.
func expectLooks(t *testing.T, r api.Region, pages []int) {
	t.Helper()
	if got, want := Check(r), checked(r); got != want {
		t.Fatalf("Check(%v) = %d, want %d", r, got, want)
	}
	if got, want := End(r), ended(r); got != want {
		t.Fatalf("End(%v) = %d, want %d", r, got, want)
	}
	for _, write := range []bool{false, true} {
		if got, want := Permits(r, write), permitted(r, write); got != want {
			t.Fatalf("Permits(%v, %t) = %t", r, write, got)
		}
	}
	for _, page := range pages {
		if got, want := Has(r, page), slices.Contains(pagesOf(r), page); got != want {
			t.Fatalf("Has(%v, %d) = %t", r, page, got)
		}
		if got, want := Page(r, page), mapped(r, page); got != want {
			t.Fatalf("Page(%v, %d) = %d, want %d", r, page, got, want)
		}
	}
}

// expectPair compares Overlap, Mergeable and Merge with their promises.
func expectPair(t *testing.T, a, b api.Region) {
	t.Helper()
	if got, want := Overlap(a, b), overlapped(a, b); got != want {
		t.Fatalf("Overlap(%v, %v) = %t", a, b, got)
	}
	if got, want := Mergeable(a, b), merged(a, b); got != want {
		t.Fatalf("Mergeable(%v, %v) = %t", a, b, got)
	}
	var want api.Region
	e := checked(a)
	if e == api.OK {
		e = checked(b)
	}
	if e == api.OK && !merged(a, b) {
		e = api.ErrState
	}
	if e == api.OK {
		want = a
		want.Pages = a.Pages + b.Pages
	}
	if got, err := Merge(a, b); got != want || err != e {
		t.Fatalf("Merge(%v, %v) = %v, %d, want %v, %d", a, b, got, err, want, e)
	}
}

// expectSplit compares Split with its promise.
func expectSplit(t *testing.T, r api.Region, page int) {
	t.Helper()
	lower, upper, e := Split(r, page)
	wantLower, wantUpper, wantError := splits(r, page)
	if lower != wantLower || upper != wantUpper || e != wantError {
		t.Fatalf("Split(%v, %d) = %v, %v, %d, want %v, %v, %d", r, page, lower, upper, e, wantLower, wantUpper, wantError)
	}
}

// expectCut compares Cut with its promise.
func expectCut(t *testing.T, r api.Region, page, count int) {
	t.Helper()
	got, e := Cut(r, page, count)
	want, wantError := rest(r, page, count)
	if !slices.Equal(got, want) || e != wantError {
		t.Fatalf("Cut(%v, %d, %d) = %v, %d, want %v, %d", r, page, count, got, e, want, wantError)
	}
}
