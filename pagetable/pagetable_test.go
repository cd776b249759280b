package pagetable

import (
	"math"
	"math/rand"
	"slices"
	"testing"

	"estovers/api"
)

// places are all pages, and numbers that are none.
func places() []int {
	out := []int{-1, -8, -512, 512, 513, 519, 4096, math.MinInt, math.MaxInt, 1 << 61, 1 << 62, math.MaxInt - 7}
	for page := range 512 {
		out = append(out, page)
	}
	return out
}

// groupPlaces are all groups, and numbers that are none, also some whose eightfold is a page.
func groupPlaces() []int {
	out := []int{-1, -64, 64, 65, 512, math.MinInt, math.MaxInt, 1 << 61, 1<<61 + 2, -1<<61 + 2, 1 << 32}
	for group := range 64 {
		out = append(out, group)
	}
	return out
}

// words are words that fit at level 0, that are those of huge pages, and that fit nowhere.
func words() []uint64 {
	return []uint64{
		pageWord(5, 1), pageWord(greatest, 7), pageWord(0, 0), swapWord(3), swapWord(0), moveWord(4), moveWord(4) + 8,
		hugeWord(16, 5), hugeWord(greatest-7, 0), hugeWord(greatest-6, 0), 0, linkWord(1), linkWord(50),
		5, 6, 7, 8, 128, 256, pageWord(5, 1) + 128, hugeWord(16, 0) + 128, swapWord(3) + 8, moveWord(4) + 16, moveWord(4) + 64, 1<<40 + 1, math.MaxUint64,
	}
}

// P6.1
func TestNew(t *testing.T) {
	for _, root := range []int{0, 1, 10, 255, greatest - 1, greatest} {
		got, e := New(root)
		if e != api.OK || got.Root != root {
			t.Errorf("New(%d) = %v, %d", root, got, e)
		}
		agree(t, got, newModel(root))
	}
	for _, root := range []int{-1, greatest + 1, math.MinInt, math.MaxInt} {
		if got, e := New(root); e != api.ErrRange || !same(got, api.PageTable{}) {
			t.Errorf("New(%d) = %v, %d", root, got, e)
		}
	}
}

// P6.1 for Walk, Missing, Huge, List and Frames.
func TestRead(t *testing.T) {
	table, m := sample()
	agree(t, table, m)
	for _, page := range places() {
		w, level, e := Walk(table, page)
		missing, missingError := Missing(table, page)
		if page < 0 || page > 511 {
			if w != 0 || level != 0 || e != api.ErrRange || missing != 0 || missingError != api.ErrRange {
				t.Errorf("page %d: Walk = %d, %d, %d, Missing = %d, %d", page, w, level, e, missing, missingError)
			}
			continue
		}
		want, wantLevel := m.walk(page)
		if w != want || level != wantLevel || e != api.OK {
			t.Errorf("Walk to %d = %d, %d, %d, want %d, %d", page, w, level, e, want, wantLevel)
		}
		wantMissing, wantError := wantLevel, api.OK
		if _, ok := m.huge[page/8]; ok {
			wantMissing, wantError = 0, api.ErrExist
		}
		if missing != wantMissing || missingError != wantError {
			t.Errorf("Missing for %d = %d, %d, want %d, %d", page, missing, missingError, wantMissing, wantError)
		}
	}
	for _, group := range groupPlaces() {
		if _, ok := m.huge[group]; Huge(table, group) != ok {
			t.Errorf("Huge of %d = %t", group, !ok)
		}
	}
}

// step is a call that returns a page table, and the same for its content.
type step struct {
	name string
	do   func(t api.PageTable) (api.PageTable, uint64, []int, int)
	want func(m model) (uint64, []int, int)
}

func setStep(page int, w uint64, frames []int) step {
	return step{"Set", func(t api.PageTable) (api.PageTable, uint64, []int, int) {
		out, e := Set(t, page, w, frames)
		return out, 0, nil, e
	}, func(m model) (uint64, []int, int) { return 0, nil, m.set(page, w, frames) }}
}

func setHugeStep(group int, w uint64, frames []int) step {
	return step{"SetHuge", func(t api.PageTable) (api.PageTable, uint64, []int, int) {
		out, e := SetHuge(t, group, w, frames)
		return out, 0, nil, e
	}, func(m model) (uint64, []int, int) { return 0, nil, m.setHuge(group, w, frames) }}
}

func replaceStep(page int, w uint64) step {
	return step{"Replace", func(t api.PageTable) (api.PageTable, uint64, []int, int) {
		out, old, e := Replace(t, page, w)
		return out, old, nil, e
	}, func(m model) (uint64, []int, int) {
		old, e := m.replace(page, w)
		return old, nil, e
	}}
}

func clearStep(page int) step {
	return step{"Clear", func(t api.PageTable) (api.PageTable, uint64, []int, int) { return Clear(t, page) }, func(m model) (uint64, []int, int) { return m.clear(page) }}
}

func splitStep(group int) step {
	return step{"Split", func(t api.PageTable) (api.PageTable, uint64, []int, int) {
		out, e := Split(t, group)
		return out, 0, nil, e
	}, func(m model) (uint64, []int, int) { return 0, nil, m.split(group) }}
}

func assembleStep(group int) step {
	return step{"Assemble", func(t api.PageTable) (api.PageTable, uint64, []int, int) {
		out, e := Assemble(t, group)
		return out, 0, nil, e
	}, func(m model) (uint64, []int, int) { return 0, nil, m.assemble(group) }}
}

// expect compares a step with its direct reading, and returns the page table behind it, with its content.
func expect(t *testing.T, s step, table api.PageTable, m model) (api.PageTable, model) {
	t.Helper()
	out, old, free, e := s.do(table)
	after := m.clone()
	wantOld, wantFree, wantError := s.want(after)
	if old != wantOld || !slices.Equal(free, wantFree) || e != wantError {
		t.Fatalf("%s of %v = %d, %v, %d, want %d, %v, %d", s.name, table, old, free, e, wantOld, wantFree, wantError)
	}
	if e != api.OK {
		if !same(out, api.PageTable{}) {
			t.Fatalf("%s of %v = %v beside the error %d", s.name, table, out, e)
		}
		return table, m
	}
	if !same(out, after.table()) || Check(out) != api.OK {
		t.Fatalf("%s of %v = %v, want %v", s.name, table, out, after.table())
	}
	return out, after
}

// P6.2 for Set and SetHuge, at all places.
func TestSet(t *testing.T) {
	table, m := sample()
	for _, frames := range [][]int{nil, {1}, {5, 4}, {1, 2, 3}, {-1}, {50}, {97}, {4, 4}, {4, 12}, {greatest + 1}, {4, greatest - 1}} {
		for _, page := range places() {
			expect(t, setStep(page, pageWord(5, 3), frames), table, m)
			expect(t, setHugeStep(page, hugeWord(5, 3), frames), table, m)
		}
		for _, group := range groupPlaces() {
			expect(t, setHugeStep(group, hugeWord(5, 3), frames), table, m)
		}
	}
}

// P6.2 for Set and SetHuge: the order of their errors.
func TestSetErrors(t *testing.T) {
	table, m := sample()
	for _, w := range words() {
		for _, frames := range [][]int{nil, {1}, {1, 2}, {4, 4}} {
			for _, page := range []int{0, 1, 5, 16, 40, 66, 80, 128, 256, 264, 320, 496, 510, 511, 512, -1} {
				expect(t, setStep(page, w, frames), table, m)
				expect(t, setHugeStep(page/8, w, frames), table, m)
			}
			expect(t, setHugeStep(64, w, frames), table, m)
		}
	}
}

// P6.2 for Set and SetHuge: all frames that are not new or no frames, in each place.
func TestSetFrames(t *testing.T) {
	table, m := sample()
	candidates := append(m.frames(), -1, math.MinInt, math.MaxInt, greatest+1, greatest-1, 1, 1<<32)
	for _, f := range candidates {
		for _, frames := range [][]int{{f}, {f, 5}, {5, f}, {f, f}, {1, 2, f}} {
			for _, page := range []int{8, 128, 320, 480} {
				expect(t, setStep(page, swapWord(9), frames), table, m)
				expect(t, setHugeStep(page/8, hugeWord(9, 0), frames), table, m)
			}
		}
	}
}

// P6.2 for Replace, Clear, Split and Assemble, at all places.
func TestChange(t *testing.T) {
	table, m := sample()
	for _, page := range places() {
		expect(t, clearStep(page), table, m)
		expect(t, replaceStep(page, swapWord(8)), table, m)
		expect(t, replaceStep(page, hugeWord(8, 1)), table, m)
	}
	for _, w := range words() {
		for _, page := range []int{0, 1, 5, 7, 16, 23, 40, 66, 80, 128, 511, 512, -1} {
			expect(t, replaceStep(page, w), table, m)
		}
	}
	for _, group := range append(groupPlaces(), places()...) {
		expect(t, splitStep(group), table, m)
		expect(t, assembleStep(group), table, m)
	}
}

// P6.2 for Clear, down to the empty root.
func TestClearAll(t *testing.T) {
	random := rand.New(rand.NewSource(1))
	for range 30 {
		table, m := sample()
		for len(m.list()) > 0 {
			list := m.list()
			table, m = expect(t, clearStep(list[random.Intn(len(list))].Page), table, m)
		}
		// The tables that were empty before, and the one that leads to one of them, have stayed.
		if want := []int{13, 21, 22, 50}; !slices.Equal(Frames(table), want) {
			t.Fatalf("the frames %v are left, want %v", Frames(table), want)
		}
	}
}

// P6.2 for Assemble: all pairs of defects.
func TestAssemble(t *testing.T) {
	defect := func(i int) []uint64 {
		return []uint64{pageWord(40+i, 1), pageWord(40+i, 0), pageWord(41+i, 1), pageWord(39+i, 0), pageWord(40+i, 7), 0, swapWord(40 + i), moveWord(40+i) + 8}
	}
	for i := range 8 {
		for j := range 8 {
			for _, first := range defect(i) {
				for _, second := range defect(j) {
					_, m := sample()
					for n := range 8 {
						m.pages[72+n] = pageWord(40+n, 1)
					}
					m.pages[72+i], m.pages[72+j] = first, second
					for n := range 8 {
						if m.pages[72+n] == 0 {
							delete(m.pages, 72+n)
						}
					}
					expect(t, assembleStep(9), m.table(), m)
				}
			}
		}
	}
}

// randomStep returns a step that mostly succeeds in a page table whose content is m.
func randomStep(random *rand.Rand, m model) step {
	page := random.Intn(128)
	if random.Intn(4) == 0 {
		page = random.Intn(520) - 4
	}
	var frames []int
	_, level := m.walk(max(page, 0))
	for range level {
		frames = append(frames, random.Intn(400))
	}
	switch random.Intn(12) {
	case 0, 1, 2:
		all := words()
		return setStep(page, all[random.Intn(len(all))], frames)
	case 3, 4:
		return setStep(page, pageWord(300+page, 1+2*random.Intn(4)), frames)
	case 5, 6:
		return setHugeStep(page/8, hugeWord(300+page/8*8, random.Intn(8)), frames)
	case 7:
		all := words()
		return replaceStep(page, all[random.Intn(len(all))])
	case 8:
		return splitStep(page / 8)
	case 9:
		return assembleStep(page / 8)
	}
	return clearStep(page)
}

// P6.1 to P6.3, with long sequences.
func TestSequences(t *testing.T) {
	random := rand.New(rand.NewSource(2))
	for range 30 {
		root := random.Intn(400)
		table, _ := New(root)
		m := newModel(root)
		for range 400 {
			before := m
			table, m = expect(t, randomStep(random, m), table, m)
			// No table is empty, so their number follows from the pages.
			if n := tablesFor(m.list()); n != len(table.Nodes) {
				t.Fatalf("%v has %d tables, want %d", table, len(table.Nodes), n)
			}
			if len(before.frames()) != len(m.frames()) {
				agree(t, table, m)
			}
		}
	}
}

// tablesFor returns the number of tables of a page table without empty tables, as P6.3 gives it.
func tablesFor(list []api.PageEntry) int {
	middle, low := map[int]bool{}, map[int]bool{}
	for _, p := range list {
		middle[p.Page/64] = true
		if p.Entry&64 == 0 {
			low[p.Page/8] = true
		}
	}
	return 1 + len(middle) + len(low)
}

// P6.3: whatever the order in which it was built, a page table is a map from pages to entries.
func TestOrder(t *testing.T) {
	random := rand.New(rand.NewSource(3))
	_, m := sample()
	want := m.list()
	for range 50 {
		table, _ := New(0)
		next := 1
		for _, i := range random.Perm(len(want)) {
			p := want[i]
			_, level, e := Walk(table, p.Page)
			if e != api.OK {
				t.Fatalf("Walk(%v, %d) has the error %d", table, p.Page, e)
			}
			frames := []int{next, next + 1}[:level]
			next += level
			if p.Entry&64 != 0 && p.Entry%8 == 1 {
				table, e = SetHuge(table, p.Page/8, p.Entry, frames)
			} else {
				table, e = Set(table, p.Page, p.Entry, frames)
			}
			if e != api.OK {
				t.Fatalf("setting %v has the error %d", p, e)
			}
		}
		if got := List(table); !slices.Equal(got, want) {
			t.Fatalf("List(%v) = %v, want %v", table, got, want)
		}
		if len(table.Nodes) != tablesFor(want) || !slices.Equal(Frames(table), count(next)) {
			t.Fatalf("%v has the frames %v", table, Frames(table))
		}
	}
}

// count returns the numbers from 0 to n-1.
func count(n int) []int {
	var out []int
	for i := range n {
		out = append(out, i)
	}
	return out
}

// translate returns the word of a page as if no page were huge.
func translate(t *testing.T, table api.PageTable, page int) uint64 {
	t.Helper()
	w, level, e := Walk(table, page)
	if e != api.OK {
		t.Fatalf("Walk(%v, %d) has the error %d", table, page, e)
	}
	if level == 1 && w != 0 {
		w += uint64(256*(page%8)) - 64
	}
	return w
}

// P6.3: Split and Assemble change no translation, and are inverse to each other.
func TestSplitAndAssemble(t *testing.T) {
	for flags := range 8 {
		for _, number := range []int{0, 16, 17, greatest - 7} {
			table, m := sample()
			huge, _ := expect(t, setHugeStep(11, hugeWord(number, flags), []int{1}), table, m)
			split, e := Split(huge, 11)
			if e != api.OK || Huge(split, 11) {
				t.Fatalf("Split(%v, 11) = %v, %d", huge, split, e)
			}
			for page := range 512 {
				if a, b := translate(t, huge, page), translate(t, split, page); a != b {
					t.Fatalf("page %d is %d in %v and %d in %v", page, a, huge, b, split)
				}
			}
			back, e := Assemble(split, 11)
			if e != api.OK || !same(back, huge) {
				t.Fatalf("Assemble(%v, 11) = %v, %d, want %v", split, back, e, huge)
			}
			again, e := Split(back, 11)
			if e != api.OK || !same(again, split) {
				t.Fatalf("Split(%v, 11) = %v, %d, want %v", back, again, e, split)
			}
		}
	}
}

// P6.3: an entry that is set and cleared again leaves everything as it was.
func TestSetAndClear(t *testing.T) {
	_, m := sample()
	delete(m.middle, 5)
	delete(m.low, 32)
	table := m.table()
	for page := range 512 {
		old, level := m.walk(page)
		if old != 0 {
			continue
		}
		given := []int{1, 2}[:level]
		for _, huge := range []bool{false, true} {
			if huge && level == 0 {
				continue
			}
			set, e := Set(table, page, swapWord(1), given)
			if huge {
				set, e = SetHuge(table, page/8, hugeWord(1, 1), given)
			}
			if e != api.OK {
				t.Fatalf("setting page %d of %v has the error %d", page, table, e)
			}
			back, _, free, e := Clear(set, page)
			slices.Reverse(free)
			if e != api.OK || !same(back, table) || !slices.Equal(free, given) {
				t.Fatalf("Clear(%v, %d) = %v, %v, %d, want %v, %v", set, page, back, free, e, table, given)
			}
		}
	}
}

// The examples of the chapter.
func TestExamples(t *testing.T) {
	a, _ := New(10)
	if n, e := Missing(a, 70); n != 2 || e != api.OK {
		t.Errorf("Missing(a, 70) = %d, %d", n, e)
	}
	b, e := Set(a, 70, 1305, []int{11, 12})
	nodes := []api.Node{{Frame: 10, Entries: [8]uint64{1: 2820}}, {Frame: 11, Entries: [8]uint64{0: 3076}}, {Frame: 12, Entries: [8]uint64{6: 1305}}}
	if e != api.OK || !same(b, api.PageTable{Root: 10, Nodes: nodes}) {
		t.Fatalf("Set(a, 70) = %v, %d", b, e)
	}
	for _, c := range []struct {
		page  int
		w     uint64
		level int
	}{{70, 1305, 0}, {64, 0, 0}, {80, 0, 1}, {0, 0, 2}} {
		if w, level, e := Walk(b, c.page); w != c.w || level != c.level || e != api.OK {
			t.Errorf("Walk(b, %d) = %d, %d, %d", c.page, w, level, e)
		}
	}
	back, w, free, e := Clear(b, 70)
	if !same(back, a) || w != 1305 || !slices.Equal(free, []int{12, 11}) || e != api.OK {
		t.Errorf("Clear(b, 70) = %v, %d, %v, %d", back, w, free, e)
	}
	h, e := SetHuge(a, 9, 4201, []int{11, 12})
	if e != api.OK || len(h.Nodes) != 2 || h.Nodes[1] != (api.Node{Frame: 11, Entries: [8]uint64{1: 4201}}) || !slices.Equal(h.Deposits, []api.Deposit{{Group: 9, Frame: 12}}) {
		t.Fatalf("SetHuge(a, 9) = %v, %d", h, e)
	}
	s, e := Split(h, 9)
	if e != api.OK || len(s.Deposits) != 0 || len(s.Nodes) != 3 || s.Nodes[2].Frame != 12 || s.Nodes[2].Entries[3] != 4905 {
		t.Errorf("Split(h, 9) = %v, %d", s, e)
	}
}
