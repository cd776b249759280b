package mmu

import (
	"slices"

	"estovers/api"
	"estovers/pagetable"
	"estovers/pte"
	"estovers/tlb"
)

// decode returns the entry of a word that is known to have one.
func decode(word uint64) api.Entry {
	e, _ := pte.Decode(word)
	return e
}

// suffices reports whether a cached translation serves an access without the page table. A first write must reach the page table, to set the dirty bit there.
func suffices(e api.Entry, write bool) bool {
	return !write || e.Write && e.Dirty
}

// pagesOf returns the number of pages that a translation covers.
func pagesOf(e api.Entry) int {
	if e.Huge {
		return api.HugePages
	}
	return 1
}

// frameOf returns the frame of a page in a translation.
func frameOf(e api.Entry, page int) int {
	return e.Number + page%pagesOf(e)
}

// translate returns the entry of t that serves an access to a page: the error of pagetable.Check, ErrRange, ErrFault, ErrAccess.
func translate(t api.PageTable, page int, write bool) (api.Entry, int) {
	word, _, err := pagetable.Walk(t, page)
	e := decode(word)
	switch {
	case err != api.OK:
		return api.Entry{}, err
	case e.Kind != api.EntryPage:
		return api.Entry{}, api.ErrFault
	case write && !e.Write:
		return api.Entry{}, api.ErrAccess
	}
	return e, api.OK
}

// refill marks the entry of t for an access that it serves, and fills it into b.
func refill(t api.PageTable, b api.Tlb, space, page int, write bool) (api.PageTable, api.Tlb) {
	word, _, _ := pagetable.Walk(t, page)
	marked, _ := pte.Mark(word, write)
	t, _, _ = pagetable.Replace(t, page, marked)
	b, _ = tlb.Fill(b, space, page, marked)
	return t, b
}

// withoutAccessed returns a copy of t without accessed bits.
func withoutAccessed(t api.PageTable) api.PageTable {
	out := copyTable(t)
	for n := range out.Nodes {
		entries := &out.Nodes[n].Entries
		for i, word := range entries {
			// Only the entries of pages have the bit; Old refuses the others.
			if old, err := pte.Old(word); err == api.OK {
				entries[i] = old
			}
		}
	}
	return out
}

func copyTable(t api.PageTable) api.PageTable {
	return api.PageTable{Root: t.Root, Nodes: slices.Clone(t.Nodes), Deposits: slices.Clone(t.Deposits)}
}

func copyCache(b api.Tlb) api.Tlb {
	return api.Tlb{Size: b.Size, Entries: slices.Clone(b.Entries)}
}
