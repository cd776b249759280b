package mmu

import (
	"math/rand"
	"slices"
	"testing"

	"estovers/api"
	"estovers/pagetable"
	"estovers/tlb"
)

// P8.1 for Access, with each cache at all pages.
func TestAccess(t *testing.T) {
	table := sample(t)
	for _, b := range caches() {
		for page := range 512 {
			for _, write := range []bool{false, true} {
				got := expectAccess(t, table, b, 0, page, write)
				if got.e != api.OK && got.e != api.ErrFault && got.e != api.ErrAccess {
					t.Fatalf("Access of page %d has the error %d", page, got.e)
				}
				if page%17 == 0 {
					expectAccess(t, table, b, 1, page, write)
					expectAccess(t, table, b, 7, page, write)
				}
			}
		}
	}
}

// P8.1 for Access: ErrRange, and the order of the first errors.
func TestAccessErrors(t *testing.T) {
	table, b := sample(t), caches()[4]
	for _, page := range append(noPages(), 1) {
		for _, space := range append(noSpaces(), 0) {
			got := expectAccess(t, table, b, space, page, true)
			if want := page != 1 || space != 0; (got.e == api.ErrRange) != want {
				t.Errorf("Access(%d, %d) has the error %d", space, page, got.e)
			}
		}
	}
	for _, bad := range invalidTables(t) {
		for _, cache := range append(invalidCaches(), b) {
			for _, space := range []int{0, 8} {
				for _, page := range []int{1, 512} {
					expectAccess(t, bad, cache, space, page, false)
					expectAccess(t, table, cache, space, page, false)
				}
			}
		}
	}
}

// P8.1 for Access, with literal results: what a cached entry permits, and what the page table decides.
func TestAccessCases(t *testing.T) {
	for _, c := range []struct {
		what          string
		entry, cached uint64
		write         bool
		frame, e      int
		after         uint64
		refilled      uint64
	}{
		{"read, not cached", pageWord(5, 0), 0, false, 5, api.OK, pageWord(5, 2), pageWord(5, 2)},
		{"read, not mapped", 0, 0, false, 0, api.ErrFault, 0, 0},
		{"write, not mapped", 0, 0, true, 0, api.ErrFault, 0, 0},
		{"read of a slot", swapWord(5), 0, false, 0, api.ErrFault, swapWord(5), 0},
		{"write of a page that moves", moveWord(5) + 8, 0, true, 0, api.ErrFault, moveWord(5) + 8, 0},
		{"write, read-only", pageWord(5, 2), 0, true, 0, api.ErrAccess, pageWord(5, 2), 0},
		{"write, not cached", pageWord(5, 1), 0, true, 5, api.OK, pageWord(5, 7), pageWord(5, 7)},
		{"read, cached", pageWord(5, 1), pageWord(5, 0), false, 5, api.OK, pageWord(5, 1), pageWord(5, 0)},
		{"read, cached otherwise", pageWord(5, 1), pageWord(6, 0), false, 6, api.OK, pageWord(5, 1), pageWord(6, 0)},
		{"read, cached but not mapped", 0, pageWord(6, 0), false, 6, api.OK, 0, pageWord(6, 0)},
		{"write, cached, writable and dirty", pageWord(5, 0), pageWord(6, 5), true, 6, api.OK, pageWord(5, 0), pageWord(6, 5)},
		{"write, cached, not dirty", pageWord(5, 1), pageWord(6, 1), true, 5, api.OK, pageWord(5, 7), pageWord(5, 7)},
		{"write, cached, not writable", pageWord(5, 1), pageWord(5, 6), true, 5, api.OK, pageWord(5, 7), pageWord(5, 7)},
		{"write, cached, not dirty, read-only", pageWord(5, 0), pageWord(5, 3), true, 0, api.ErrAccess, pageWord(5, 0), 0},
		{"write, cached, not dirty, not mapped", 0, pageWord(5, 3), true, 0, api.ErrFault, 0, 0},
		{"write, cached, not dirty, swapped", swapWord(1), pageWord(5, 3), true, 0, api.ErrFault, swapWord(1), 0},
	} {
		table, _ := pagetable.New(10)
		if c.entry != 0 {
			table = add(t, table, 70, c.entry)
		}
		b, other := api.Tlb{Size: 2}, api.TlbEntry{Space: 1, Page: 70, Entry: 257}
		if c.cached != 0 {
			b.Entries = append(b.Entries, api.TlbEntry{Page: 70, Entry: c.cached})
		}
		b.Entries = append(b.Entries, other)
		got := access(table, b, 0, 70, c.write)
		after, _, _ := pagetable.Walk(got.t, 70)
		word, _ := tlb.Lookup(got.b, 0, 70)
		if got.frame != c.frame || got.e != c.e || after != c.after || word != c.refilled || !slices.Contains(got.b.Entries, other) {
			t.Errorf("%s: %v, with the entries %d and %d", c.what, got, after, word)
		}
	}
}

// P8.1 for Access: huge pages, in the table, in the cache, or in both.
func TestAccessHuge(t *testing.T) {
	small, _ := pagetable.New(10)
	for i := range 8 {
		small = add(t, small, 72+i, pageWord(40+i, 1))
	}
	huge := add(t, api.PageTable{Root: 10, Nodes: []api.Node{{Frame: 10}}}, 72, hugeWord(16, 1))
	for page := 72; page < 80; page++ {
		got := access(huge, api.Tlb{Size: 2}, 0, page, true)
		want := api.TlbEntry{Page: 72, Entry: hugeWord(16, 7)}
		if got.e != api.OK || got.frame != page-72+16 || !slices.Equal(got.b.Entries, []api.TlbEntry{want}) || !slices.Equal(pagetable.List(got.t), []api.PageEntry{{Page: 72, Entry: want.Entry}}) {
			t.Errorf("page %d of a huge page: %v", page, got)
		}
		// A huge page in the place of the cached pages of its group.
		cached := api.Tlb{Size: 3, Entries: []api.TlbEntry{{Page: 73, Entry: pageWord(1, 7)}, {Page: 80, Entry: 257}, {Page: 79, Entry: pageWord(1, 7)}}}
		if got := expectAccess(t, huge, cached, 0, page, true); len(got.b.Entries) != 2 && page != 73 && page != 79 {
			t.Errorf("page %d of a huge page: %v", page, got)
		}
		// A small page in the place of the cached huge page: the first write finds its own frame.
		cached = api.Tlb{Size: 1, Entries: []api.TlbEntry{{Page: 72, Entry: hugeWord(16, 3)}}}
		if got := expectAccess(t, small, cached, 0, page, false); got.frame != page-72+16 {
			t.Errorf("read of page %d: %v", page, got)
		}
		if got := expectAccess(t, small, cached, 0, page, true); got.frame != page-72+40 || !slices.Equal(got.b.Entries, []api.TlbEntry{{Page: page, Entry: pageWord(page-72+40, 7)}}) {
			t.Errorf("write of page %d: %v", page, got)
		}
	}
}

// P8.1 for Lookup.
func TestLookup(t *testing.T) {
	tables := append(invalidTables(t), sample(t), api.PageTable{Root: 3, Nodes: []api.Node{{Frame: 3}}})
	pages := noPages()
	for page := range 512 {
		pages = append(pages, page)
	}
	for _, table := range tables {
		for _, page := range pages {
			for _, write := range []bool{false, true} {
				frame, e := Lookup(table, page, write)
				want, wantError := translated(table, page, write)
				if frame != want || e != wantError {
					t.Fatalf("Lookup(%v, %d, %t) = %d, %d, want %d, %d", table, page, write, frame, e, want, wantError)
				}
			}
		}
	}
}

// P8.1 for Reach.
func TestReach(t *testing.T) {
	for _, b := range append(caches(), invalidCaches()...) {
		for _, write := range []bool{false, true} {
			if got, want := Reach(b, write), reachable(b, write); !slices.Equal(got, want) {
				t.Errorf("Reach(%v, %t) = %v, want %v", b, write, got, want)
			}
		}
	}
	b := api.Tlb{Size: 8, Entries: []api.TlbEntry{
		{Page: 9, Entry: pageWord(30, 7)}, {Page: 16, Entry: hugeWord(16, 1)}, {Space: 1, Page: 9, Entry: pageWord(20, 5)},
		{Page: 10, Entry: pageWord(30, 0)}, {Page: 11, Entry: pageWord(greatest, 6)}, {Page: 24, Entry: hugeWord(1, 5)},
	}}
	if got := Reach(b, false); !slices.Equal(got, []int{1, 2, 3, 4, 5, 6, 7, 8, 16, 17, 18, 19, 20, 21, 22, 23, 30, greatest}) {
		t.Errorf("Reach for reading = %v", got)
	}
	if got := Reach(b, true); !slices.Equal(got, []int{1, 2, 3, 4, 5, 6, 7, 8, 20, 30}) {
		t.Errorf("Reach for writing = %v", got)
	}
}

func expectHarvest(t *testing.T, table api.PageTable) api.PageTable {
	t.Helper()
	got, pages, e := Harvest(table)
	want, wantPages, wantError := harvested(table)
	if e != wantError || !sameTable(got, want) || !slices.Equal(pages, wantPages) {
		t.Fatalf("Harvest(%v) = %v, %v, %d, want %v, %v, %d", table, got, pages, e, want, wantPages, wantError)
	}
	return got
}

// P8.1 for Harvest.
func TestHarvest(t *testing.T) {
	for _, table := range invalidTables(t) {
		expectHarvest(t, table)
	}
	empty, _ := pagetable.New(3)
	expectHarvest(t, empty)
	table := sample(t)
	_, pages, e := Harvest(table)
	if want := []int{2, 3, 6, 7, 13, 80, 88, 112, 120, 448}; e != api.OK || !slices.Equal(pages, want) {
		t.Errorf("Harvest = %v, %d, want %v", pages, e, want)
	}
	once := expectHarvest(t, table)
	if again, pages, _ := Harvest(once); len(pages) != 0 || !sameTable(again, once) {
		t.Errorf("the second Harvest = %v, %v", again, pages)
	}
}

// changeTable returns a page table with a random change of a page or its group, if that change is possible.
func changeTable(random *rand.Rand, table api.PageTable, page int) api.PageTable {
	next := table
	e := api.OK
	switch random.Intn(5) {
	case 0:
		next, _, _, e = pagetable.Clear(table, page)
	case 1:
		next, e = pagetable.Split(table, page/8)
	case 2:
		next, e = pagetable.Assemble(table, page/8)
	case 3:
		next, _, e = pagetable.Replace(table, page, []uint64{pageWord(300+page, random.Intn(8)), swapWord(2), hugeWord(300+page/8*8, random.Intn(8))}[random.Intn(3)])
	default:
		missing, _ := pagetable.Missing(table, page)
		frames := []int{1000 + page/64, 2000 + page/8}[2-missing:]
		next, e = pagetable.Set(table, page, pageWord(300+page, random.Intn(8)), frames)
	}
	if e != api.OK {
		return table
	}
	return next
}

// P8.1, with long sequences in which caches are not told about changes of the page table.
func TestSequences(t *testing.T) {
	random := rand.New(rand.NewSource(1))
	seen := map[int]int{}
	for range 40 {
		table := sample(t)
		b := api.Tlb{Size: 1 + random.Intn(8)}
		for range 200 {
			page := []int{0, 8, 24, 64, 72, 80, 120, 128, 448}[random.Intn(9)] + random.Intn(8)
			switch random.Intn(10) {
			case 0:
				table = expectHarvest(t, table)
			case 1, 2, 3:
				table = changeTable(random, table, page)
			default:
				got := expectAccess(t, table, b, random.Intn(2), page, random.Intn(2) == 0)
				table, b = got.t, got.b
				seen[got.e]++
			}
		}
	}
	for _, e := range []int{api.OK, api.ErrFault, api.ErrAccess} {
		if seen[e] < 100 {
			t.Errorf("the result %d occurred %d times", e, seen[e])
		}
	}
}

// P8.2: as long as only accesses change the page table, those through a cache agree with Lookup, and behind a write the entry is dirty.
func TestConsequences(t *testing.T) {
	random := rand.New(rand.NewSource(2))
	first := sample(t)
	for range 20 {
		table := first
		b, _ := tlb.New(1 + random.Intn(16))
		for range 300 {
			page, write := random.Intn(136), random.Intn(2) == 0
			got := access(table, b, 3, page, write)
			frame, e := Lookup(first, page, write)
			if got.frame != frame || got.e != e {
				t.Fatalf("Access(%v, %v, 3, %d, %t) = %d, %d, want %d, %d", table, b, page, write, got.frame, got.e, frame, e)
			}
			table, b = got.t, got.b
			if w, _, _ := pagetable.Walk(table, page); write && e == api.OK && w&32 == 0 {
				t.Fatalf("page %d of %v is not dirty behind a write", page, table)
			}
		}
	}
}

// P8.2: without an entry of the cache, a processor cannot reach a frame through a page table that does not map it.
func TestUnmapped(t *testing.T) {
	table := sample(t)
	for _, p := range pagetable.List(table) {
		without, _, _, e := pagetable.Clear(table, p.Page)
		if e != api.OK {
			t.Fatalf("Clear of page %d has the error %d", p.Page, e)
		}
		for _, b := range caches() {
			if tlb.Covers(b, 0, p.Page) {
				continue
			}
			for _, write := range []bool{false, true} {
				got := access(without, b, 0, p.Page, write)
				if got.e != api.ErrFault || got.frame != 0 || !slices.Equal(Reach(got.b, write), Reach(b, write)) {
					t.Fatalf("page %d: %v", p.Page, got)
				}
			}
		}
	}
}

// withMarks returns copies whose lists have spare capacity with marks in it.
func withMarks(t api.PageTable, b api.Tlb) (api.PageTable, api.Tlb) {
	nodes, deposits, entries := append(slices.Clone(t.Nodes), api.Node{Frame: 991}), append(slices.Clone(t.Deposits), api.Deposit{Frame: 992}), append(slices.Clone(b.Entries), api.TlbEntry{Page: 993})
	t.Nodes, t.Deposits, b.Entries = nodes[:len(nodes)-1], deposits[:len(deposits)-1], entries[:len(entries)-1]
	return t, b
}

// areMarked reports whether t and b are equal to others, with the marks in their places.
func areMarked(t, wantTable api.PageTable, b, wantCache api.Tlb) bool {
	n, p, e := len(t.Nodes), len(t.Deposits), len(b.Entries)
	return sameTable(t, wantTable) && sameCache(b, wantCache) && t.Nodes[:n+1][n].Frame == 991 && t.Deposits[:p+1][p].Frame == 992 && b.Entries[:e+1][e].Page == 993
}

// overwrite changes everything in t and b.
func overwrite(t api.PageTable, b api.Tlb) {
	for i := range t.Nodes {
		t.Nodes[i] = api.Node{Frame: 7}
	}
	for i := range t.Deposits {
		t.Deposits[i] = api.Deposit{Frame: 7}
	}
	for i := range b.Entries {
		b.Entries[i] = api.TlbEntry{Page: 7}
	}
	_, _, _ = append(t.Nodes, api.Node{}), append(t.Deposits, api.Deposit{}), append(b.Entries, api.TlbEntry{})
}

// Rule 'Values'.
func TestArgumentsStay(t *testing.T) {
	table, cache := sample(t), caches()[len(caches())-1]
	do := map[string]func(t api.PageTable, b api.Tlb) outcome{
		"a cached read":     func(t api.PageTable, b api.Tlb) outcome { return access(t, b, 0, 1, false) },
		"a cached write":    func(t api.PageTable, b api.Tlb) outcome { return access(t, b, 0, 7, true) },
		"a first write":     func(t api.PageTable, b api.Tlb) outcome { return access(t, b, 0, 1, true) },
		"a read":            func(t api.PageTable, b api.Tlb) outcome { return access(t, b, 0, 2, false) },
		"a fault":           func(t api.PageTable, b api.Tlb) outcome { return access(t, b, 0, 200, false) },
		"a cached fault":    func(t api.PageTable, b api.Tlb) outcome { return access(t, b, 0, 300, true) },
		"a refused write":   func(t api.PageTable, b api.Tlb) outcome { return access(t, b, 0, 448, true) },
		"no page":           func(t api.PageTable, b api.Tlb) outcome { return access(t, b, 0, 512, true) },
		"a read of a group": func(t api.PageTable, b api.Tlb) outcome { return access(t, b, 0, 115, false) },
		"a harvest": func(t api.PageTable, b api.Tlb) outcome {
			t, _, e := Harvest(t)
			return outcome{t: t, e: e}
		},
		"a look": func(t api.PageTable, b api.Tlb) outcome {
			Reach(b, true)
			frame, e := Lookup(t, 1, false)
			return outcome{frame: frame, e: e}
		},
	}
	for what, act := range do {
		givenTable, givenCache := withMarks(table, cache)
		got := act(givenTable, givenCache)
		if !areMarked(givenTable, table, givenCache, cache) {
			t.Fatalf("%s: an argument has changed", what)
		}
		want := outcome{deepCopy(got.t), copyCache(got.b), got.frame, got.e}
		overwrite(givenTable, givenCache)
		if !got.same(want) {
			t.Fatalf("%s: the result changes with an argument", what)
		}
		givenTable, givenCache = withMarks(table, cache)
		got = act(givenTable, givenCache)
		overwrite(got.t, got.b)
		if !areMarked(givenTable, table, givenCache, cache) {
			t.Fatalf("%s: an argument changes with the result", what)
		}
	}
}

// The examples of the chapter.
func TestExamples(t *testing.T) {
	table, _ := pagetable.New(10)
	table, _ = pagetable.Set(table, 70, 1289, []int{11, 12})
	b, _ := tlb.New(2)
	words := func(o outcome) [2]uint64 {
		entry, _, _ := pagetable.Walk(o.t, 70)
		cached, _ := tlb.Lookup(o.b, 0, 70)
		return [2]uint64{entry, cached}
	}
	read := access(table, b, 0, 70, false)
	if read.frame != 5 || read.e != api.OK || words(read) != [2]uint64{1305, 1305} {
		t.Fatalf("the first read: %v", read)
	}
	if again := access(read.t, read.b, 0, 70, false); !again.same(read) {
		t.Errorf("the second read: %v", again)
	}
	written := access(read.t, read.b, 0, 70, true)
	if written.frame != 5 || written.e != api.OK || words(written) != [2]uint64{1337, 1337} {
		t.Fatalf("the write: %v", written)
	}
	cleared, _, _, _ := pagetable.Clear(written.t, 70)
	if got := access(cleared, written.b, 0, 70, true); got.frame != 5 || got.e != api.OK {
		t.Errorf("the write through the cache: %v", got)
	}
	if got := access(cleared, b, 0, 70, true); got.frame != 0 || got.e != api.ErrFault {
		t.Errorf("the write without the cache: %v", got)
	}
	for _, write := range []bool{false, true} {
		if got := Reach(written.b, write); !slices.Equal(got, []int{5}) {
			t.Errorf("Reach for write %t = %v", write, got)
		}
	}
	old, pages, e := Harvest(written.t)
	if w, _, _ := pagetable.Walk(old, 70); w != 1321 || !slices.Equal(pages, []int{70}) || e != api.OK {
		t.Errorf("Harvest = %v, %v, %d", old, pages, e)
	}
}
