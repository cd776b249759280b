package mmu

import (
	"math"
	"slices"
	"testing"

	"estovers/api"
	"estovers/pagetable"
	"estovers/tlb"
)

const greatest = 1<<32 - 1

// Words of entries, by their bits as the chapter of layer 5 gives them; the flags are Write, Accessed and Dirty.
func pageWord(frame, flags int) uint64 { return uint64(1 + 8*flags + 256*frame) }
func hugeWord(frame, flags int) uint64 { return uint64(65 + 8*flags + 256*frame) }
func swapWord(slot int) uint64         { return uint64(2 + 256*slot) }
func moveWord(frame int) uint64        { return uint64(3 + 256*frame) }

// entryAt returns the place in t of the entry at which the walk for a page ends.
func entryAt(t api.PageTable, page int) *uint64 {
	frame := t.Root
	for span := 64; ; span /= 8 {
		n := slices.IndexFunc(t.Nodes, func(n api.Node) bool { return n.Frame == frame })
		w := &t.Nodes[n].Entries[page/span%8]
		if *w%8 != api.EntryTable {
			return w
		}
		frame = int(*w >> 8)
	}
}

// frameIn returns the frame of a page in the word of its entry.
func frameIn(w uint64, page int) int {
	if w&64 != 0 {
		return int(w>>8) + page%8
	}
	return int(w >> 8)
}

// covered reports whether an entry of a cache covers a page of a space.
func covered(e api.TlbEntry, space, page int) bool {
	if e.Entry&64 != 0 {
		return e.Space == space && page >= e.Page && page < e.Page+8
	}
	return e.Space == space && page == e.Page
}

// dropped returns b without the entries that cover one of the pages from first on.
func dropped(b api.Tlb, space, first, count int) api.Tlb {
	out := api.Tlb{Size: b.Size}
	for _, e := range b.Entries {
		stays := true
		for page := first; page < first+count; page++ {
			stays = stays && !covered(e, space, page)
		}
		if stays {
			out.Entries = append(out.Entries, e)
		}
	}
	return out
}

// refilled returns b behind the filling of the word of a page.
func refilled(b api.Tlb, space, page int, w uint64) api.Tlb {
	count := 1
	if w&64 != 0 {
		page, count = page/8*8, 8
	}
	out := dropped(b, space, page, count)
	if len(out.Entries) == out.Size {
		out.Entries = out.Entries[1:]
	}
	out.Entries = append(out.Entries, api.TlbEntry{Space: space, Page: page, Entry: w})
	return out
}

// outcome is the result of an access.
type outcome struct {
	t     api.PageTable
	b     api.Tlb
	frame int
	e     int
}

func access(t api.PageTable, b api.Tlb, space, page int, write bool) outcome {
	t, b, frame, e := Access(t, b, space, page, write)
	return outcome{t, b, frame, e}
}

// accessed is the promise of Access; only the checks of the lower layers are theirs.
func accessed(t api.PageTable, b api.Tlb, space, page int, write bool) outcome {
	if e := pagetable.Check(t); e != api.OK {
		return outcome{e: e}
	}
	if e := tlb.Check(b); e != api.OK {
		return outcome{e: e}
	}
	if space < 0 || space > 7 || page < 0 || page > 511 {
		return outcome{e: api.ErrRange}
	}
	for _, e := range b.Entries {
		if covered(e, space, page) && (!write || e.Entry&8 != 0 && e.Entry&32 != 0) {
			return outcome{t, b, frameIn(e.Entry, page), api.OK}
		}
	}
	after := deepCopy(t)
	w := entryAt(after, page)
	if *w%8 != api.EntryPage {
		return outcome{t, dropped(b, space, page, 1), 0, api.ErrFault}
	}
	if write && *w&8 == 0 {
		return outcome{t, dropped(b, space, page, 1), 0, api.ErrAccess}
	}
	*w |= 16
	if write {
		*w |= 32
	}
	return outcome{after, refilled(b, space, page, *w), frameIn(*w, page), api.OK}
}

// translated is the promise of Lookup.
func translated(t api.PageTable, page int, write bool) (int, int) {
	if e := pagetable.Check(t); e != api.OK {
		return 0, e
	}
	if page < 0 || page > 511 {
		return 0, api.ErrRange
	}
	w := *entryAt(t, page)
	if w%8 != api.EntryPage {
		return 0, api.ErrFault
	}
	if write && w&8 == 0 {
		return 0, api.ErrAccess
	}
	return frameIn(w, page), api.OK
}

// reachable is the promise of Reach.
func reachable(b api.Tlb, write bool) []int {
	var out []int
	if tlb.Check(b) != api.OK {
		return nil
	}
	for _, e := range b.Entries {
		if write && (e.Entry&8 == 0 || e.Entry&32 == 0) {
			continue
		}
		for page := e.Page; covered(e, e.Space, page); page++ {
			out = append(out, frameIn(e.Entry, page))
		}
	}
	slices.Sort(out)
	return slices.Compact(out)
}

// harvested is the promise of Harvest.
func harvested(t api.PageTable) (api.PageTable, []int, int) {
	if e := pagetable.Check(t); e != api.OK {
		return api.PageTable{}, nil, e
	}
	after := deepCopy(t)
	var pages []int
	for page := range 512 {
		// The entry of a huge page has lost its bit when its second page is reached.
		if w := entryAt(after, page); *w%8 == api.EntryPage && *w&16 != 0 {
			*w -= 16
			pages = append(pages, page)
		}
	}
	return after, pages, api.OK
}

func deepCopy(t api.PageTable) api.PageTable {
	return api.PageTable{Root: t.Root, Nodes: slices.Clone(t.Nodes), Deposits: slices.Clone(t.Deposits)}
}

// sameTable and sameCache report whether two values are equal, where nil and empty lists are the same.
func sameTable(a, b api.PageTable) bool {
	return a.Root == b.Root && slices.Equal(a.Nodes, b.Nodes) && slices.Equal(a.Deposits, b.Deposits)
}

func sameCache(a, b api.Tlb) bool { return a.Size == b.Size && slices.Equal(a.Entries, b.Entries) }

func (o outcome) same(p outcome) bool {
	return o.frame == p.frame && o.e == p.e && sameTable(o.t, p.t) && sameCache(o.b, p.b)
}

func expectAccess(t *testing.T, table api.PageTable, b api.Tlb, space, page int, write bool) outcome {
	t.Helper()
	got, want := access(table, b, space, page, write), accessed(table, b, space, page, write)
	if !got.same(want) {
		t.Fatalf("Access(%v, %v, %d, %d, %t) = %v, want %v", table, b, space, page, write, got, want)
	}
	return got
}

// add sets an entry in t, whose missing tables get frames from 1000 on that belong to their places.
func add(t *testing.T, table api.PageTable, page int, w uint64) api.PageTable {
	t.Helper()
	missing, e := pagetable.Missing(table, page)
	if e != api.OK {
		t.Fatalf("Missing(%v, %d) has the error %d", table, page, e)
	}
	frames := []int{1000 + page/64, 2000 + page/8}[2-missing:]
	if w&64 != 0 {
		table, e = pagetable.SetHuge(table, page/8, w, frames)
	} else {
		table, e = pagetable.Set(table, page, w, frames)
	}
	if e != api.OK {
		t.Fatalf("adding page %d has the error %d", page, e)
	}
	return table
}

// sample returns a page table with entries of all kinds, and with each combination of flags.
func sample(t *testing.T) api.PageTable {
	t.Helper()
	table, _ := pagetable.New(900)
	for flags := range 8 {
		table = add(t, table, flags, pageWord(100+flags, flags))
		table = add(t, table, 64+8*flags, hugeWord(200+8*flags, flags))
	}
	for _, p := range []api.PageEntry{
		{Page: 8, Entry: swapWord(3)}, {Page: 9, Entry: moveWord(4)}, {Page: 10, Entry: moveWord(5) + 8}, {Page: 12, Entry: pageWord(0, 1)}, {Page: 13, Entry: pageWord(100, 7)},
		{Page: 24, Entry: hugeWord(greatest-7, 1)}, {Page: 448, Entry: pageWord(greatest, 3)}, {Page: 511, Entry: pageWord(7, 0)}, {Page: 504, Entry: swapWord(0)},
	} {
		table = add(t, table, p.Page, p.Entry)
	}
	return table
}

// caches are valid caches with entries that agree with the sample, with old entries of pages that are mapped otherwise, and with entries of pages that are not mapped.
func caches() []api.Tlb {
	entries := []api.TlbEntry{
		{Space: 0, Page: 1, Entry: pageWord(101, 3)}, {Space: 0, Page: 7, Entry: pageWord(107, 7)}, {Space: 1, Page: 7, Entry: pageWord(55, 1)},
		{Space: 0, Page: 64, Entry: pageWord(50, 7)}, {Space: 0, Page: 66, Entry: pageWord(51, 1)}, {Space: 0, Page: 72, Entry: hugeWord(208, 3)},
		{Space: 0, Page: 80, Entry: hugeWord(216, 7)}, {Space: 0, Page: 8, Entry: hugeWord(56, 3)}, {Space: 0, Page: 24, Entry: hugeWord(greatest-7, 5)},
		{Space: 0, Page: 128, Entry: pageWord(60, 5)}, {Space: 0, Page: 300, Entry: pageWord(61, 0)}, {Space: 0, Page: 496, Entry: hugeWord(64, 5)},
		{Space: 7, Page: 511, Entry: pageWord(7, 1)}, {Space: 0, Page: 504, Entry: pageWord(101, 7)}, {Space: 0, Page: 448, Entry: pageWord(greatest, 4)},
		{Space: 0, Page: 0, Entry: pageWord(58, 7)},
	}
	out := []api.Tlb{{Size: 1}, {Size: 16}}
	for i := range entries {
		out = append(out, api.Tlb{Size: 1, Entries: entries[i : i+1]}, api.Tlb{Size: 2, Entries: entries[i : i+1]}, api.Tlb{Size: i + 1, Entries: entries[:i+1]})
	}
	return out
}

// invalidTables are page tables with each error of pagetable.Check.
func invalidTables(t *testing.T) []api.PageTable {
	t.Helper()
	var out []api.PageTable
	for _, change := range []func(p *api.PageTable){
		func(p *api.PageTable) { *p = api.PageTable{} },
		func(p *api.PageTable) { p.Nodes[0].Frame = -1 },
		func(p *api.PageTable) { p.Nodes[0], p.Nodes[1] = p.Nodes[1], p.Nodes[0] },
		func(p *api.PageTable) { p.Deposits[0].Frame = 900 },
		func(p *api.PageTable) { p.Root = 1 },
		func(p *api.PageTable) { *entryAt(*p, 5) = 128 },
		func(p *api.PageTable) { p.Deposits = p.Deposits[1:] },
	} {
		table := deepCopy(sample(t))
		change(&table)
		out = append(out, table)
	}
	return out
}

// invalidCaches are caches with each error of tlb.Check.
func invalidCaches() []api.Tlb {
	return []api.Tlb{
		{}, {Size: 17}, {Size: -1}, {Size: 1, Entries: []api.TlbEntry{{Page: 1, Entry: 257}, {Page: 2, Entry: 257}}},
		{Size: 2, Entries: []api.TlbEntry{{Page: 512, Entry: 257}}}, {Size: 2, Entries: []api.TlbEntry{{Space: 8, Page: 1, Entry: 257}}},
		{Size: 2, Entries: []api.TlbEntry{{Page: 1, Entry: 258}}}, {Size: 2, Entries: []api.TlbEntry{{Page: 1, Entry: hugeWord(8, 5)}}},
		{Size: 2, Entries: []api.TlbEntry{{Page: 1, Entry: 257}, {Page: 1, Entry: 257}}},
	}
}

// noPages are numbers that are no pages.
func noPages() []int {
	return []int{512, 519, 520, 1 << 32, -1, -8, -512, math.MinInt, math.MaxInt, math.MaxInt - 7}
}

// noSpaces are numbers that are no spaces.
func noSpaces() []int { return []int{8, -1, 1 << 32, math.MinInt, math.MaxInt} }
