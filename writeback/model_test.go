package writeback

import (
	"math/big"
	"slices"
	"testing"

	"estovers/api"
)

// The limits of files, and the number of pages that they can have together.
const (
	files    = 4
	capacity = 16
	allPages = files * capacity
)

// checked is the promise of Check.
func checked(l []api.DirtyPage) int {
	for _, p := range l {
		if p.File < 0 || p.File > files-1 || p.Index < 0 || p.Index > capacity-1 || p.Since < 0 {
			return api.ErrRange
		}
	}
	for i, p := range l {
		// More pages than there are must be a page twice; this keeps long lists quick.
		if i > allPages {
			return api.ErrExist
		}
		for _, q := range l[:i] {
			if p.File == q.File && p.Index == q.Index {
				return api.ErrExist
			}
		}
	}
	return api.OK
}

// isBefore is the order of writing of Types.
func isBefore(a, b api.DirtyPage) bool {
	if a.Since != b.Since {
		return a.Since < b.Since
	}
	if a.File != b.File {
		return a.File < b.File
	}
	return a.Index < b.Index
}

// rank returns how many pages are before a page.
func rank(l []api.DirtyPage, p api.DirtyPage) int {
	n := 0
	for _, q := range l {
		if isBefore(q, p) {
			n++
		}
	}
	return n
}

// next is the promise of Next.
func next(l []api.DirtyPage) int {
	if checked(l) == api.OK {
		for i, p := range l {
			if rank(l, p) == 0 {
				return i
			}
		}
	}
	return -1
}

// inOrder returns the pages of a valid list in the order of writing.
func inOrder(l []api.DirtyPage) []api.DirtyPage {
	out := make([]api.DirtyPage, len(l))
	for _, p := range l {
		out[rank(l, p)] = p
	}
	return out
}

// ordered is the promise of Order.
func ordered(l []api.DirtyPage) ([]api.DirtyPage, int) {
	if e := checked(l); e != api.OK {
		return nil, e
	}
	return inOrder(l), api.OK
}

// expired is the promise of Expired, in exact integers.
func expired(l []api.DirtyPage, now, age int) ([]api.DirtyPage, int) {
	if e := checked(l); e != api.OK {
		return nil, e
	}
	if now < 0 || age < 0 {
		return nil, api.ErrRange
	}
	var out []api.DirtyPage
	for _, p := range inOrder(l) {
		been := new(big.Int).Sub(big.NewInt(int64(now)), big.NewInt(int64(p.Since)))
		if been.Cmp(big.NewInt(int64(age))) >= 0 {
			out = append(out, p)
		}
	}
	return out, api.OK
}

// grid tells for each page whether it is dirty; behind the last page of a file there is one that never is.
type grid [files][capacity + 1]bool

func gridOf(l []api.DirtyPage) grid {
	var g grid
	for _, p := range l {
		g[p.File][p.Index] = true
	}
	return g
}

// divided is the promise of Runs.
func divided(l []api.DirtyPage, most int) ([]api.DirtyRun, int) {
	if e := checked(l); e != api.OK {
		return nil, e
	}
	if most < 1 {
		return nil, api.ErrRange
	}
	var out []api.DirtyRun
	for file, pages := range gridOf(l) {
		for index := 0; index < capacity; index++ {
			begin := index
			for pages[index] && index-begin < most {
				index++
			}
			if index > begin {
				out = append(out, api.DirtyRun{File: file, Index: begin, Count: index - begin})
				index--
			}
		}
	}
	return out, api.OK
}

// remaining is the promise of Written.
func remaining(l []api.DirtyPage, run api.DirtyRun) ([]api.DirtyPage, int) {
	if e := checked(l); e != api.OK {
		return nil, e
	}
	if run.File < 0 || run.File > files-1 || run.Index < 0 || run.Index > capacity-1 {
		return nil, api.ErrRange
	}
	if run.Count < 1 || run.Count > capacity-run.Index {
		return nil, api.ErrRange
	}
	g := gridOf(l)
	for i := range run.Count {
		if !g[run.File][run.Index+i] {
			return nil, api.ErrNone
		}
		g[run.File][run.Index+i] = false
	}
	var out []api.DirtyPage
	for _, p := range l {
		if g[p.File][p.Index] {
			out = append(out, p)
		}
	}
	return out, api.OK
}

// expectList compares Check, Next and Order with their promises.
func expectList(t *testing.T, l []api.DirtyPage) int {
	t.Helper()
	e := Check(l)
	if want := checked(l); e != want {
		t.Fatalf("Check(%v) = %d, want %d", l, e, want)
	}
	if got, want := Next(l), next(l); got != want {
		t.Fatalf("Next(%v) = %d, want %d", l, got, want)
	}
	got, code := Order(l)
	want, wantCode := ordered(l)
	if !slices.Equal(got, want) || code != wantCode {
		t.Fatalf("Order(%v) = %v, %d, want %v, %d", l, got, code, want, wantCode)
	}
	return e
}

func expectExpired(t *testing.T, l []api.DirtyPage, now, age int) ([]api.DirtyPage, int) {
	t.Helper()
	got, code := Expired(l, now, age)
	want, wantCode := expired(l, now, age)
	if !slices.Equal(got, want) || code != wantCode {
		t.Fatalf("Expired(%v, %d, %d) = %v, %d, want %v, %d", l, now, age, got, code, want, wantCode)
	}
	return got, code
}

func expectRuns(t *testing.T, l []api.DirtyPage, most int) ([]api.DirtyRun, int) {
	t.Helper()
	got, code := Runs(l, most)
	want, wantCode := divided(l, most)
	if !slices.Equal(got, want) || code != wantCode {
		t.Fatalf("Runs(%v, %d) = %v, %d, want %v, %d", l, most, got, code, want, wantCode)
	}
	return got, code
}

func expectWritten(t *testing.T, l []api.DirtyPage, run api.DirtyRun) ([]api.DirtyPage, int) {
	t.Helper()
	got, code := Written(l, run)
	want, wantCode := remaining(l, run)
	if !slices.Equal(got, want) || code != wantCode {
		t.Fatalf("Written(%v, %v) = %v, %d, want %v, %d", l, run, got, code, want, wantCode)
	}
	return got, code
}
