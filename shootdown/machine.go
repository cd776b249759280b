package shootdown

import (
	"slices"

	"estovers/api"
	"estovers/pte"
	"estovers/tlb"
)

// space is the number of the only address space.
const space = 0

func isCount(n, most int) bool { return n >= 1 && n <= most }

func isCpu(s api.Shoot, n int) bool { return n >= 0 && n < len(s.Tlbs) }

func isPage(s api.Shoot, n int) bool { return n >= 0 && n < len(s.Table) }

func isFrame(s api.Shoot, n int) bool { return n >= 0 && n < len(s.Words) }

// isMapped reports whether a page, whose entry is well-formed, is mapped.
func isMapped(s api.Shoot, page int) bool { return decode(s.Table[page]).Kind == api.EntryPage }

// encode returns the word of an entry that is well-formed.
func encode(e api.Entry) uint64 {
	word, _ := pte.Encode(e)
	return word
}

// decode returns the entry of a word that is known to have one.
func decode(word uint64) api.Entry {
	e, _ := pte.Decode(word)
	return e
}

// framesInUse returns the frames to which pages are mapped, and then those in limbo: all that are not free.
func framesInUse(s api.Shoot) []int {
	var frames []int
	for page, word := range s.Table {
		if isMapped(s, page) {
			frames = append(frames, decode(word).Number)
		}
	}
	for _, l := range s.Limbo {
		frames = append(frames, l.Frame)
	}
	return frames
}

// owes reports whether a processor has not acknowledged an invalidation of a page.
func owes(s api.Shoot, cpu, page int) bool {
	return slices.ContainsFunc(s.Pending[cpu], func(v api.Inval) bool { return v.Page == page })
}

// holdsFor reports whether a frame is in limbo because of a processor.
func holdsFor(s api.Shoot, cpu, frame int) bool {
	return slices.ContainsFunc(s.Limbo, func(l api.Limbo) bool { return l.Frame == frame && l.Acks>>cpu&1 == 1 })
}

// checkMapping returns the error of Check, ErrRange for a page that does not exist, ErrNone for one that is not mapped, or OK.
func checkMapping(s api.Shoot, page int) int {
	if err := Check(s); err != api.OK {
		return err
	}
	switch {
	case !isPage(s, page):
		return api.ErrRange
	case !isMapped(s, page):
		return api.ErrNone
	}
	return api.OK
}

// invalidate asks all processors that cache a page to drop it, and returns the bit mask of these processors.
func invalidate(s *api.Shoot, page int) int {
	cpus := 0
	for cpu, b := range s.Tlbs {
		if tlb.Covers(b, space, page) {
			s.Pending[cpu] = append(s.Pending[cpu], api.Inval{Space: space, Page: page})
			cpus |= 1 << cpu
		}
	}
	return cpus
}

// translate returns the frame that an access uses, and leaves in s what a processor changes to find it: ErrFault, ErrAccess.
func translate(s *api.Shoot, cpu, page int, write bool) (int, int) {
	if word, ok := tlb.Lookup(s.Tlbs[cpu], space, page); ok {
		// A first write must reach the table, to set the dirty bit there.
		if e := decode(word); !write || e.Write && e.Dirty {
			return e.Number, api.OK
		}
	}
	s.Tlbs[cpu], _ = tlb.Invalidate(s.Tlbs[cpu], space, page)
	if !isMapped(*s, page) {
		return 0, api.ErrFault
	}
	marked, err := pte.Mark(s.Table[page], write)
	if err != api.OK {
		return 0, err
	}
	s.Table[page] = marked
	s.Tlbs[cpu], _ = tlb.Fill(s.Tlbs[cpu], space, page, marked)
	return decode(marked).Number, api.OK
}

// withoutOwed returns the cache of a processor without the pages that it owes.
func withoutOwed(s api.Shoot, cpu int) api.Tlb {
	b := s.Tlbs[cpu]
	out := copyCache(b)
	// There may be far more invalidations than cached pages.
	for _, c := range b.Entries {
		if owes(s, cpu, c.Page) {
			out, _ = tlb.Invalidate(out, space, c.Page)
		}
	}
	return out
}

func clone(s api.Shoot) api.Shoot {
	out := api.Shoot{Table: slices.Clone(s.Table), Limbo: slices.Clone(s.Limbo), Words: slices.Clone(s.Words)}
	for cpu, b := range s.Tlbs {
		out.Tlbs = append(out.Tlbs, copyCache(b))
		out.Pending = append(out.Pending, slices.Clone(s.Pending[cpu]))
	}
	return out
}

func copyCache(b api.Tlb) api.Tlb {
	return api.Tlb{Size: b.Size, Entries: slices.Clone(b.Entries)}
}
