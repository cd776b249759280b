package rmap

import (
	"fmt"
	"slices"
	"testing"

	"estovers/api"
	"estovers/pagetable"
	"estovers/pte"
)

// isMapping reports whether a mapping is valid.
func isMapping(m api.Mapping) bool {
	return m.Space >= 0 && m.Space <= 7 && m.Page >= 0 && m.Page <= 511
}

// isLess reports whether a stands before b in their order.
func isLess(a, b api.Mapping) bool {
	return a.Space < b.Space || a.Space == b.Space && a.Page < b.Page
}

// checked is the promise of Check.
func checked(l []api.Mapping) int {
	for _, m := range l {
		if !isMapping(m) {
			return api.ErrRange
		}
	}
	for i := 1; i < len(l); i++ {
		if !isLess(l[i-1], l[i]) {
			return api.ErrOrder
		}
	}
	return api.OK
}

// place returns how many mappings of a list stand before m.
func place(l []api.Mapping, m api.Mapping) int {
	at := 0
	for at < len(l) && isLess(l[at], m) {
		at++
	}
	return at
}

// added is the promise of Add.
func added(l []api.Mapping, m api.Mapping) ([]api.Mapping, int) {
	switch e := checked(l); {
	case e != api.OK:
		return nil, e
	case !isMapping(m):
		return nil, api.ErrRange
	case slices.Contains(l, m):
		return nil, api.ErrExist
	}
	at := place(l, m)
	return slices.Concat(l[:at], []api.Mapping{m}, l[at:]), api.OK
}

// removed is the promise of Remove.
func removed(l []api.Mapping, m api.Mapping) ([]api.Mapping, int) {
	switch e := checked(l); {
	case e != api.OK:
		return nil, e
	case !slices.Contains(l, m):
		return nil, api.ErrNone
	}
	at := place(l, m)
	return slices.Concat(l[:at], l[at+1:]), api.OK
}

// copied is the promise of Copy.
func copied(l []api.Mapping, from, to int) ([]api.Mapping, int) {
	if e := checked(l); e != api.OK {
		return nil, e
	}
	if from < 0 || from > 7 || to < 0 || to > 7 {
		return nil, api.ErrRange
	}
	var pages []int
	for _, m := range l {
		if m.Space == from {
			pages = append(pages, m.Page)
		}
	}
	for _, page := range pages {
		if slices.Contains(l, api.Mapping{Space: to, Page: page}) {
			return nil, api.ErrExist
		}
	}
	out := l
	for _, page := range pages {
		m := api.Mapping{Space: to, Page: page}
		at := place(out, m)
		out = slices.Concat(out[:at], []api.Mapping{m}, out[at:])
	}
	return out, api.OK
}

// dropped is the promise of Drop.
func dropped(l []api.Mapping, space int) []api.Mapping {
	var out []api.Mapping
	for _, m := range l {
		if checked(l) == api.OK && m.Space != space {
			out = append(out, m)
		}
	}
	return out
}

// sheet is the frame that a page table names for each page; -1 if it names none.
type sheet [512]int

// sheetOf returns the frames that a page table names.
func sheetOf(t api.PageTable) sheet {
	var out sheet
	for page := range out {
		out[page] = -1
	}
	for _, p := range pagetable.List(t) {
		switch e, _ := pte.Decode(p.Entry); {
		case e.Kind == api.EntryPage && e.Huge:
			for i := range 8 {
				out[p.Page+i] = e.Number + i
			}
		case e.Kind == api.EntryPage || e.Kind == api.EntryMove:
			out[p.Page] = e.Number
		}
	}
	return out
}

// sheetsOf returns the frames that the page tables name that are considered.
func sheetsOf(tables []api.PageTable) []sheet {
	var out []sheet
	for s, t := range tables {
		if s < 8 && pagetable.Check(t) == api.OK {
			out = append(out, sheetOf(t))
		} else if s < 8 {
			out = append(out, sheetOf(api.PageTable{}))
		}
	}
	return out
}

// mappingsIn returns the mappings of a frame, which is not negative.
func mappingsIn(sheets []sheet, frame int) []api.Mapping {
	var out []api.Mapping
	for s := range sheets {
		for page := range 512 {
			if sheets[s][page] == frame {
				out = append(out, api.Mapping{Space: s, Page: page})
			}
		}
	}
	return out
}

// mappingsOf is the promise of Of.
func mappingsOf(tables []api.PageTable, frame int) []api.Mapping {
	if frame < 0 {
		return nil
	}
	return mappingsIn(sheetsOf(tables), frame)
}

// isInverse is the promise of Inverse.
func isInverse(tables []api.PageTable, maps [][]api.Mapping) bool {
	sheets := sheetsOf(tables)
	for f, l := range maps {
		if !slices.Equal(l, mappingsIn(sheets, f)) {
			return false
		}
	}
	for _, named := range sheets {
		if slices.Max(named[:]) >= len(maps) {
			return false
		}
	}
	return true
}

// action is a call with a list, and a direct reading of its promise.
type action struct {
	what     string
	do, read func(l []api.Mapping) ([]api.Mapping, int)
}

func addAction(m api.Mapping) action {
	return action{fmt.Sprintf("Add(%v)", m),
		func(l []api.Mapping) ([]api.Mapping, int) { return Add(l, m) },
		func(l []api.Mapping) ([]api.Mapping, int) { return added(l, m) }}
}

func removeAction(m api.Mapping) action {
	return action{fmt.Sprintf("Remove(%v)", m),
		func(l []api.Mapping) ([]api.Mapping, int) { return Remove(l, m) },
		func(l []api.Mapping) ([]api.Mapping, int) { return removed(l, m) }}
}

func copyAction(from, to int) action {
	return action{fmt.Sprintf("Copy(%d, %d)", from, to),
		func(l []api.Mapping) ([]api.Mapping, int) { return Copy(l, from, to) },
		func(l []api.Mapping) ([]api.Mapping, int) { return copied(l, from, to) }}
}

func dropAction(space int) action {
	return action{fmt.Sprintf("Drop(%d)", space),
		func(l []api.Mapping) ([]api.Mapping, int) { return Drop(l, space), api.OK },
		func(l []api.Mapping) ([]api.Mapping, int) { return dropped(l, space), api.OK }}
}

// expect compares an action with the direct reading of its promise.
func expect(t *testing.T, l []api.Mapping, a action) ([]api.Mapping, int) {
	t.Helper()
	got, e := a.do(l)
	want, wantError := a.read(l)
	if !slices.Equal(got, want) || e != wantError {
		t.Fatalf("%s of %v = %v, %d, want %v, %d", a.what, l, got, e, want, wantError)
	}
	if Check(got) != api.OK {
		t.Fatalf("%s of %v = %v, which is not valid", a.what, l, got)
	}
	return got, e
}

// expectLooks compares Check and Has with their promises.
func expectLooks(t *testing.T, l []api.Mapping, m api.Mapping) {
	t.Helper()
	if got, want := Check(l), checked(l); got != want {
		t.Fatalf("Check(%v) = %d, want %d", l, got, want)
	}
	if got, want := Has(l, m), checked(l) == api.OK && slices.Contains(l, m); got != want {
		t.Fatalf("Has(%v, %v) = %t", l, m, got)
	}
}

// expectOf compares Of with its promise.
func expectOf(t *testing.T, tables []api.PageTable, frame int) []api.Mapping {
	t.Helper()
	got, want := Of(tables, frame), mappingsOf(tables, frame)
	if !slices.Equal(got, want) || Check(got) != api.OK {
		t.Fatalf("Of(%v, %d) = %v, want %v", tables, frame, got, want)
	}
	return got
}

// expectInverse compares Inverse with its promise.
func expectInverse(t *testing.T, tables []api.PageTable, maps [][]api.Mapping) bool {
	t.Helper()
	got := Inverse(tables, maps)
	if got != isInverse(tables, maps) {
		t.Fatalf("Inverse(%v, %v) = %t", tables, maps, got)
	}
	return got
}
