package tlb

import (
	"math"
	"math/rand"
	"slices"
	"testing"

	"estovers/api"
)

const greatest = 1<<32 - 1

// Words of entries, by their bits as the chapter of layer 5 gives them; the flags are Write, Accessed and Dirty.
func pageWord(frame, flags int) uint64 { return uint64(1 + 8*flags + 256*frame) }
func hugeWord(frame, flags int) uint64 { return uint64(65 + 8*flags + 256*frame) }

// isMapped is a direct reading of what a translation is.
func isMapped(w uint64) bool {
	return w%8 == 1 && w&128 == 0 && w>>40 == 0 && (w&64 == 0 || w>>8 <= greatest-7)
}

// pagesOf returns the pages that an entry covers.
func pagesOf(e api.TlbEntry) []int {
	if e.Entry&64 == 0 {
		return []int{e.Page}
	}
	var out []int
	for i := range 8 {
		out = append(out, e.Page+i)
	}
	return out
}

// shares reports whether two entries cover the same page of the same space.
func shares(a, b api.TlbEntry) bool {
	return a.Space == b.Space && slices.ContainsFunc(pagesOf(a), func(page int) bool { return slices.Contains(pagesOf(b), page) })
}

// checked is the promise of Check.
func checked(b api.Tlb) int {
	if b.Size < 1 || b.Size > 16 {
		return api.ErrArg
	}
	if len(b.Entries) > b.Size {
		return api.ErrFull
	}
	for i, e := range b.Entries {
		if e.Space < 0 || e.Space > 7 || e.Page < 0 || e.Page > 511 {
			return api.ErrRange
		}
		if !isMapped(e.Entry) || e.Entry&64 != 0 && e.Page%8 != 0 {
			return api.ErrForm
		}
		for _, before := range b.Entries[:i] {
			if shares(before, e) {
				return api.ErrExist
			}
		}
	}
	return api.OK
}

// found is the promise of Lookup.
func found(b api.Tlb, space, page int) (uint64, bool) {
	if checked(b) != api.OK {
		return 0, false
	}
	for _, e := range b.Entries {
		if e.Space == space && slices.Contains(pagesOf(e), page) {
			return e.Entry, true
		}
	}
	return 0, false
}

// keep returns b with those of its entries for which stays is true.
func keep(b api.Tlb, stays func(e api.TlbEntry) bool) api.Tlb {
	out := api.Tlb{Size: b.Size}
	for _, e := range b.Entries {
		if stays(e) {
			out.Entries = append(out.Entries, e)
		}
	}
	return out
}

// placed returns the error of Check, or ErrRange.
func placed(b api.Tlb, space, page int) int {
	if e := checked(b); e != api.OK {
		return e
	}
	if space < 0 || space > 7 || page < 0 || page > 511 {
		return api.ErrRange
	}
	return api.OK
}

// filled is the promise of Fill.
func filled(b api.Tlb, space, page int, w uint64) (api.Tlb, int) {
	if e := placed(b, space, page); e != api.OK {
		return api.Tlb{}, e
	}
	if !isMapped(w) {
		return api.Tlb{}, api.ErrForm
	}
	added := api.TlbEntry{Space: space, Page: page, Entry: w}
	if w&64 != 0 {
		added.Page = page / 8 * 8
	}
	out := keep(b, func(e api.TlbEntry) bool { return !shares(e, added) })
	if len(out.Entries) == out.Size {
		out.Entries = out.Entries[1:]
	}
	out.Entries = append(out.Entries, added)
	return out, api.OK
}

// invalidated is the promise of Invalidate.
func invalidated(b api.Tlb, space, page int) (api.Tlb, int) {
	if e := placed(b, space, page); e != api.OK {
		return api.Tlb{}, e
	}
	return keep(b, func(e api.TlbEntry) bool { return e.Space != space || !slices.Contains(pagesOf(e), page) }), api.OK
}

// flushed is the promise of Flush.
func flushed(b api.Tlb, space int) (api.Tlb, int) {
	if e := placed(b, space, 0); e != api.OK {
		return api.Tlb{}, e
	}
	return keep(b, func(e api.TlbEntry) bool { return e.Space != space }), api.OK
}

// same reports whether two caches are equal, where nil and empty lists are the same.
func same(a, b api.Tlb) bool { return a.Size == b.Size && slices.Equal(a.Entries, b.Entries) }

// words are translations, and words that are none.
func words() []uint64 {
	return []uint64{
		pageWord(1, 0), pageWord(0, 0), pageWord(5, 7), pageWord(greatest, 5), hugeWord(16, 0), hugeWord(0, 7), hugeWord(3, 1), hugeWord(greatest-7, 2),
		hugeWord(greatest-6, 0), 0, 258, 2, 3, 3 + 8, 4, 5, 6, 7, 9 + 128, 65 + 128, 256, 64, 1<<40 + 1, 1<<63 + 1, math.MaxUint64,
	}
}

// samples are valid caches: without entries, with room, and full.
func samples() []api.Tlb {
	entries := []api.TlbEntry{
		{Space: 0, Page: 5, Entry: pageWord(1, 0)},
		{Space: 0, Page: 8, Entry: hugeWord(16, 7)},
		{Space: 1, Page: 5, Entry: pageWord(greatest, 3)},
		{Space: 0, Page: 16, Entry: pageWord(0, 1)},
		{Space: 7, Page: 511, Entry: pageWord(5, 5)},
		{Space: 0, Page: 23, Entry: pageWord(7, 0)},
		{Space: 1, Page: 504, Entry: hugeWord(greatest-7, 0)},
		{Space: 0, Page: 0, Entry: pageWord(1, 0)},
		{Space: 7, Page: 0, Entry: hugeWord(3, 0)},
	}
	out := []api.Tlb{{Size: 1}, {Size: 16}}
	for n := range entries {
		out = append(out, api.Tlb{Size: n + 1, Entries: entries[:n+1]}, api.Tlb{Size: n + 2, Entries: entries[:n+1]}, api.Tlb{Size: 16, Entries: entries[:n+1]})
	}
	return out
}

// invalidCaches are caches with each error, alone and beside others.
func invalidCaches() []api.Tlb {
	good := []api.TlbEntry{{Space: 0, Page: 5, Entry: pageWord(1, 0)}, {Space: 1, Page: 5, Entry: pageWord(1, 0)}, {Space: 0, Page: 16, Entry: hugeWord(16, 0)}}
	bad := []api.TlbEntry{
		{Space: -1, Page: 5, Entry: pageWord(1, 0)}, {Space: 8, Page: 5, Entry: 0}, {Space: 0, Page: -1, Entry: pageWord(1, 0)}, {Space: 0, Page: 512, Entry: hugeWord(8, 0)},
		{Space: 0, Page: -8, Entry: hugeWord(8, 0)}, {Space: math.MinInt, Page: math.MaxInt}, {Space: 2, Page: 5, Entry: 0}, {Space: 0, Page: 5, Entry: 2},
		{Space: 0, Page: 12, Entry: hugeWord(8, 0)}, {Space: 0, Page: 17, Entry: hugeWord(8, 0)}, {Space: 0, Page: 5, Entry: pageWord(2, 0)},
		{Space: 0, Page: 0, Entry: hugeWord(2, 0)}, {Space: 0, Page: 23, Entry: pageWord(1, 0)}, {Space: 0, Page: 16, Entry: hugeWord(16, 0)},
	}
	var out []api.Tlb
	for _, size := range []int{math.MinInt, -1, 0, 1, 3, 4, 5, 6, 16, 17, math.MaxInt} {
		out = append(out, api.Tlb{Size: size, Entries: good})
		for i := range 4 {
			for _, first := range bad {
				entries := slices.Insert(slices.Clone(good), i, first)
				out = append(out, api.Tlb{Size: size, Entries: entries})
				for _, second := range bad {
					out = append(out, api.Tlb{Size: size, Entries: append(slices.Clone(entries), second)})
				}
			}
		}
	}
	return slices.DeleteFunc(out, func(b api.Tlb) bool { return checked(b) == api.OK })
}

// randomCache returns a cache whose entries mostly have no error.
func randomCache(random *rand.Rand) api.Tlb {
	all := words()
	b := api.Tlb{Size: 1 + random.Intn(16)}
	if random.Intn(20) == 0 {
		b.Size = random.Intn(40) - 12
	}
	for range random.Intn(min(max(b.Size, 0), 16) + 2) {
		e := api.TlbEntry{Space: random.Intn(8), Page: random.Intn(512), Entry: all[random.Intn(4)]}
		switch random.Intn(16) {
		case 0:
			e.Entry = all[random.Intn(len(all))]
		case 1, 2, 3:
			e.Entry, e.Page = all[4+random.Intn(4)], e.Page/8*8
		case 4:
			e.Space, e.Page = random.Intn(2), random.Intn(16)
		case 5:
			e.Space = random.Intn(12) - 2
		}
		b.Entries = append(b.Entries, e)
	}
	return b
}

// expect compares a result with that of a direct reading.
func expect(t *testing.T, what string, b, got api.Tlb, e int, want api.Tlb, wantError int) {
	t.Helper()
	if e != wantError || !same(got, want) {
		t.Fatalf("%s of %v = %v, %d, want %v, %d", what, b, got, e, want, wantError)
	}
	if e == api.OK && Check(got) != api.OK {
		t.Fatalf("%s of %v = %v, which is not valid", what, b, got)
	}
}
