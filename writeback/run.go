package writeback

import (
	"cmp"
	"iter"
	"slices"

	"estovers/api"
)

// place tells which page of which file it is.
type place struct{ file, index int }

func placeOf(p api.DirtyPage) place { return place{file: p.File, index: p.Index} }

// isPlace reports whether a machine can have this page.
func isPlace(file, index int) bool {
	return file >= 0 && file < api.MaxFiles && index >= 0 && index < api.MaxFilePages
}

// isOutside reports whether a number of a page is out of range.
func isOutside(p api.DirtyPage) bool { return !isPlace(p.File, p.Index) || p.Since < 0 }

// isRun reports whether a machine can have all pages of this run, and at least one.
func isRun(run api.DirtyRun) bool {
	return isPlace(run.File, run.Index) && run.Count >= 1 && run.Count <= api.MaxFilePages-run.Index
}

// holds reports whether a page is in a run.
func holds(run api.DirtyRun, at place) bool {
	return at.file == run.File && at.index >= run.Index && at.index < run.Index+run.Count
}

// compareWriting compares two pages in the order of writing.
func compareWriting(a, b api.DirtyPage) int {
	return cmp.Or(cmp.Compare(a.Since, b.Since), comparePlaces(a, b))
}

// comparePlaces compares the files of two pages, then their indices.
func comparePlaces(a, b api.DirtyPage) int {
	return cmp.Or(cmp.Compare(a.File, b.File), cmp.Compare(a.Index, b.Index))
}

// runs yields the runs of a valid list, of at most most pages each, in ascending order.
func runs(l []api.DirtyPage, most int) iter.Seq[api.DirtyRun] {
	return func(yield func(run api.DirtyRun) bool) {
		rest := slices.SortedFunc(slices.Values(l), comparePlaces)
		for len(rest) > 0 {
			run := firstRun(rest, most)
			if !yield(run) {
				return
			}
			rest = rest[run.Count:]
		}
	}
}

// firstRun returns the run that begins with the first of some pages, which are in ascending order.
func firstRun(l []api.DirtyPage, most int) api.DirtyRun {
	run := api.DirtyRun{File: l[0].File, Index: l[0].Index, Count: 1}
	for run.Count < min(most, len(l)) && placeOf(l[run.Count]) == behind(run) {
		run.Count++
	}
	return run
}

// behind returns the place behind the last page of a run.
func behind(run api.DirtyRun) place { return place{file: run.File, index: run.Index + run.Count} }
