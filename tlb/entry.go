package tlb

import (
	"slices"

	"estovers/api"
	"estovers/pte"
)

// checkEntry returns the error of an entry behind others that have none, or OK: ErrRange, ErrForm, ErrExist.
func checkEntry(e api.TlbEntry, before []api.TlbEntry) int {
	switch {
	case !isSpace(e.Space) || !isPage(e.Page):
		return api.ErrRange
	case !isTranslation(e.Entry) || e.Page != firstPage(e.Page, e.Entry):
		return api.ErrForm
	case slices.ContainsFunc(before, func(o api.TlbEntry) bool { return overlap(o, e) }):
		return api.ErrExist
	}
	return api.OK
}

// checkPlace returns the error of Check, ErrRange for a space or a page that does not exist, or OK.
func checkPlace(b api.Tlb, space, page int) int {
	err := Check(b)
	if err == api.OK && !(isSpace(space) && isPage(page)) {
		return api.ErrRange
	}
	return err
}

// covers reports whether an entry covers a page of a space.
func covers(e api.TlbEntry, space, page int) bool {
	return e.Space == space && e.Page == firstPage(page, e.Entry)
}

// overlap reports whether two entries cover the same page. The pages of a huge entry are a whole group, so one of the two covers the first page of the other then.
func overlap(a, b api.TlbEntry) bool {
	return covers(a, b.Space, b.Page) || covers(b, a.Space, a.Page)
}

// firstPage returns the first of the pages that a translation covers if it covers page.
func firstPage(page int, entry uint64) int {
	if e, _ := pte.Decode(entry); e.Huge {
		// Rounds down, also below 0, where a remainder would be negative.
		return page &^ (api.HugePages - 1)
	}
	return page
}

// without returns a copy of b without some entries.
func without(b api.Tlb, drop func(e api.TlbEntry) bool) api.Tlb {
	return api.Tlb{Size: b.Size, Entries: slices.DeleteFunc(slices.Clone(b.Entries), drop)}
}

// isTranslation reports whether a word is that of a mapped page.
func isTranslation(word uint64) bool {
	e, err := pte.Decode(word)
	return err == api.OK && e.Kind == api.EntryPage
}

func isSize(n int) bool { return n >= 1 && n <= api.MaxTlb }

func isSpace(n int) bool { return n >= 0 && n < api.MaxProcs }

func isPage(n int) bool { return n >= 0 && n < api.Pages }
