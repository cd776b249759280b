package shootdown

import (
	"slices"

	"estovers/api"
	"estovers/pte"
	"estovers/tlb"
)

// hasSizes reports whether s has a possible number of processors, frames and pages.
func hasSizes(s api.Shoot) bool {
	return isCount(len(s.Tlbs), api.MaxCpus) && len(s.Pending) == len(s.Tlbs) && isCount(len(s.Words), api.MaxFrames) && isCount(len(s.Table), api.Pages)
}

// isFormed reports whether each entry and each invalidation of s, whose sizes are possible, is well-formed.
func isFormed(s api.Shoot) bool {
	isForeign := func(v api.Inval) bool { return v.Space != space || !isPage(s, v.Page) || v.Own }
	for _, word := range s.Table {
		if !isTranslation(s, word) && word != encode(api.Entry{}) {
			return false
		}
	}
	for cpu, b := range s.Tlbs {
		if !isCache(s, b) || slices.ContainsFunc(s.Pending[cpu], isForeign) {
			return false
		}
	}
	return true
}

// isTranslation reports whether a word is that of a page in a frame of s.
func isTranslation(s api.Shoot, word uint64) bool {
	e, err := pte.Decode(word)
	return err == api.OK && e.Kind == api.EntryPage && !e.Huge && isFrame(s, e.Number)
}

// isCache reports whether b can be a cache of s.
func isCache(s api.Shoot, b api.Tlb) bool {
	isForeign := func(c api.TlbEntry) bool {
		return c.Space != space || !isPage(s, c.Page) || !isTranslation(s, c.Entry)
	}
	return tlb.Check(b) == api.OK && !slices.ContainsFunc(b.Entries, isForeign)
}

// agrees reports whether the parts of s, each of which is well-formed, agree with one another.
func agrees(s api.Shoot) bool {
	if !areDistinctFrames(s, framesInUse(s)) {
		return false
	}
	for _, l := range s.Limbo {
		if !isAwaited(s, l.Acks) {
			return false
		}
	}
	for cpu, b := range s.Tlbs {
		for _, c := range b.Entries {
			if !mayCache(s, cpu, c) {
				return false
			}
		}
	}
	return true
}

// areDistinctFrames reports whether numbers are frames of s, each at most once.
func areDistinctFrames(s api.Shoot, numbers []int) bool {
	seen := map[int]bool{}
	for _, frame := range numbers {
		if !isFrame(s, frame) || seen[frame] {
			return false
		}
		seen[frame] = true
	}
	return true
}

// isAwaited reports whether acks is a mask of processors, at least one, each of which has something to acknowledge.
func isAwaited(s api.Shoot, acks int) bool {
	if acks < 1 || acks >= 1<<len(s.Tlbs) {
		return false
	}
	for cpu, owed := range s.Pending {
		if acks>>cpu&1 == 1 && len(owed) == 0 {
			return false
		}
	}
	return true
}

// mayCache reports whether a processor may have a translation: the table has it too, or its invalidation is pending and its frame is not used for something else.
func mayCache(s api.Shoot, cpu int, c api.TlbEntry) bool {
	cached, current := decode(c.Entry), decode(s.Table[c.Page])
	isSameFrame := current.Kind == api.EntryPage && current.Number == cached.Number
	if isSameFrame && (current.Write || !cached.Write) && (current.Dirty || !cached.Dirty) {
		return true
	}
	return owes(s, cpu, c.Page) && (isSameFrame || holdsFor(s, cpu, cached.Number))
}
