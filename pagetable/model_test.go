package pagetable

import (
	"maps"
	"slices"
	"testing"

	"estovers/api"
)

const greatest = 1<<32 - 1

// Words of entries, by their bits as the chapter of layer 5 gives them.
func pageWord(frame, flags int) uint64 { return uint64(1 + 8*flags + 256*frame) }
func hugeWord(frame, flags int) uint64 { return uint64(65 + 8*flags + 256*frame) }
func swapWord(slot int) uint64         { return uint64(2 + 256*slot) }
func moveWord(frame int) uint64        { return uint64(3 + 256*frame) }
func linkWord(frame int) uint64        { return uint64(4 + 256*frame) }

// fitsLow reports whether w is the word of a mapped, swapped or moved page that is not huge.
func fitsLow(w uint64) bool {
	switch w % 8 {
	case 1:
		return w>>40 == 0 && w&(64+128) == 0
	case 2:
		return w>>40 == 0 && w&(8+16+32+64+128) == 0
	case 3:
		return w>>40 == 0 && w&(16+32+64+128) == 0
	}
	return false
}

// fitsHuge reports whether w is the word of a huge page.
func fitsHuge(w uint64) bool {
	return w%8 == 1 && w&64 != 0 && w&128 == 0 && w>>8 <= greatest-7
}

// model is what a page table contains, as a direct reading of the chapter: the tables by their place, the words of the pages that have one, and the huge pages with their deposits by group.
type model struct {
	root    int
	middle  map[int]int
	low     map[int]int
	pages   map[int]uint64
	huge    map[int]uint64
	deposit map[int]int
}

func newModel(root int) model {
	return model{root, map[int]int{}, map[int]int{}, map[int]uint64{}, map[int]uint64{}, map[int]int{}}
}

func (m model) clone() model {
	return model{m.root, maps.Clone(m.middle), maps.Clone(m.low), maps.Clone(m.pages), maps.Clone(m.huge), maps.Clone(m.deposit)}
}

// table returns the only page table with this content.
func (m model) table() api.PageTable {
	root := api.Node{Frame: m.root}
	t := api.PageTable{Root: m.root}
	for high, frame := range m.middle {
		root.Entries[high] = linkWord(frame)
		n := api.Node{Frame: frame}
		for i := range 8 {
			if w, ok := m.huge[8*high+i]; ok {
				n.Entries[i] = w
			}
			if f, ok := m.low[8*high+i]; ok {
				n.Entries[i] = linkWord(f)
			}
		}
		t.Nodes = append(t.Nodes, n)
	}
	for group, frame := range m.low {
		n := api.Node{Frame: frame}
		for i := range 8 {
			n.Entries[i] = m.pages[8*group+i]
		}
		t.Nodes = append(t.Nodes, n)
	}
	t.Nodes = append(t.Nodes, root)
	for group, frame := range m.deposit {
		t.Deposits = append(t.Deposits, api.Deposit{Group: group, Frame: frame})
	}
	slices.SortFunc(t.Nodes, func(a, b api.Node) int { return a.Frame - b.Frame })
	slices.SortFunc(t.Deposits, func(a, b api.Deposit) int { return a.Group - b.Group })
	return t
}

// frames returns the frames of all tables and deposits, in order.
func (m model) frames() []int {
	out := []int{m.root}
	for _, of := range []map[int]int{m.middle, m.low, m.deposit} {
		out = slices.AppendSeq(out, maps.Values(of))
	}
	slices.Sort(out)
	return out
}

// walk returns the word and the level at which the walk for a page ends.
func (m model) walk(page int) (uint64, int) {
	if _, ok := m.middle[page/64]; !ok {
		return 0, 2
	}
	if _, ok := m.low[page/8]; !ok {
		return m.huge[page/8], 1
	}
	return m.pages[page], 0
}

// list returns the entries of all pages, in order.
func (m model) list() []api.PageEntry {
	var out []api.PageEntry
	for page := range 512 {
		if w, ok := m.pages[page]; ok {
			out = append(out, api.PageEntry{Page: page, Entry: w})
		}
		if w, ok := m.huge[page/8]; ok && page%8 == 0 {
			out = append(out, api.PageEntry{Page: page, Entry: w})
		}
	}
	return out
}

// isNew reports whether frames are count different new frames.
func (m model) isNew(frames []int, count int) bool {
	all := m.frames()
	for _, f := range frames {
		if f < 0 || f > greatest || slices.Contains(all, f) {
			return false
		}
		all = append(all, f)
	}
	return len(frames) == count
}

// set is the promise of Set; it changes m if it returns OK.
func (m model) set(page int, w uint64, frames []int) int {
	if page < 0 || page > 511 {
		return api.ErrRange
	}
	if !fitsLow(w) {
		return api.ErrForm
	}
	old, level := m.walk(page)
	if old != 0 {
		return api.ErrExist
	}
	if !m.isNew(frames, level) {
		return api.ErrArg
	}
	switch level {
	case 2:
		m.middle[page/64], m.low[page/8] = frames[0], frames[1]
	case 1:
		m.low[page/8] = frames[0]
	}
	m.pages[page] = w
	return api.OK
}

// setHuge is the promise of SetHuge.
func (m model) setHuge(group int, w uint64, frames []int) int {
	if group < 0 || group > 63 {
		return api.ErrRange
	}
	if !fitsHuge(w) {
		return api.ErrForm
	}
	_, isLow := m.low[group]
	_, isHuge := m.huge[group]
	if isLow || isHuge {
		return api.ErrExist
	}
	_, isMiddle := m.middle[group/8]
	count := 2
	if isMiddle {
		count = 1
	}
	if !m.isNew(frames, count) {
		return api.ErrArg
	}
	if !isMiddle {
		m.middle[group/8] = frames[0]
	}
	m.huge[group], m.deposit[group] = w, frames[count-1]
	return api.OK
}

// replace is the promise of Replace.
func (m model) replace(page int, w uint64) (uint64, int) {
	if page < 0 || page > 511 {
		return 0, api.ErrRange
	}
	old, level := m.walk(page)
	switch {
	case old == 0:
		return 0, api.ErrNone
	case level == 0 && !fitsLow(w) || level == 1 && !fitsHuge(w):
		return 0, api.ErrForm
	case level == 0:
		m.pages[page] = w
	default:
		m.huge[page/8] = w
	}
	return old, api.OK
}

// clear is the promise of Clear.
func (m model) clear(page int) (uint64, []int, int) {
	if page < 0 || page > 511 {
		return 0, nil, api.ErrRange
	}
	old, level := m.walk(page)
	if old == 0 {
		return 0, nil, api.ErrNone
	}
	var free []int
	group := page / 8
	if level == 1 {
		free = append(free, m.deposit[group])
		delete(m.huge, group)
		delete(m.deposit, group)
	} else {
		delete(m.pages, page)
		for p := range m.pages {
			if p/8 == group {
				return old, nil, api.OK
			}
		}
		free = append(free, m.low[group])
		delete(m.low, group)
	}
	for g := range 64 {
		_, isLow := m.low[g]
		_, isHuge := m.huge[g]
		if g/8 == group/8 && (isLow || isHuge) {
			return old, free, api.OK
		}
	}
	free = append(free, m.middle[group/8])
	delete(m.middle, group/8)
	return old, free, api.OK
}

// split is the promise of Split.
func (m model) split(group int) int {
	if group < 0 || group > 63 {
		return api.ErrRange
	}
	w, ok := m.huge[group]
	if !ok {
		return api.ErrNone
	}
	m.low[group] = m.deposit[group]
	delete(m.huge, group)
	delete(m.deposit, group)
	for i := range 8 {
		m.pages[8*group+i] = w - 64 + uint64(256*i)
	}
	return api.OK
}

// assemble is the promise of Assemble.
func (m model) assemble(group int) int {
	if group < 0 || group > 63 {
		return api.ErrRange
	}
	frame, ok := m.low[group]
	if !ok {
		return api.ErrNone
	}
	first := m.pages[8*group]
	state, order, access := false, false, false
	whole := first | 64
	for i := range 8 {
		w := m.pages[8*group+i]
		state = state || w%8 != 1
		order = order || w>>8 != first>>8+uint64(i)
		access = access || w&8 != first&8
		whole |= w & (16 + 32)
	}
	switch {
	case state:
		return api.ErrState
	case order:
		return api.ErrOrder
	case access:
		return api.ErrAccess
	}
	delete(m.low, group)
	for i := range 8 {
		delete(m.pages, 8*group+i)
	}
	m.huge[group], m.deposit[group] = whole, frame
	return api.OK
}

// sample returns a page table with pages of all kinds, huge pages, and empty tables of both levels, and its content.
func sample() (api.PageTable, model) {
	m := newModel(50)
	m.middle = map[int]int{0: 20, 1: 90, 4: 21, 5: 22, 7: 0}
	m.low = map[int]int{0: 60, 3: 10, 8: 11, 9: 12, 32: 13, 34: 14, 63: greatest}
	m.pages = map[int]uint64{
		0: pageWord(100, 1), 5: swapWord(0), 7: moveWord(7) + 8, 24: pageWord(greatest, 7), 65: pageWord(0, 0), 272: swapWord(greatest), 511: moveWord(3),
	}
	for i := range 8 {
		m.pages[72+i] = pageWord(200+i, 1+2*(i%2))
	}
	m.huge = map[int]uint64{2: hugeWord(16, 5), 10: hugeWord(24, 0), 62: hugeWord(greatest-7, 7)}
	m.deposit = map[int]int{2: 99, 10: 98, 62: 97}
	return m.table(), m
}

// same reports whether two page tables are equal, where nil and empty lists are the same.
func same(a, b api.PageTable) bool {
	return a.Root == b.Root && slices.Equal(a.Nodes, b.Nodes) && slices.Equal(a.Deposits, b.Deposits)
}

// agree compares a page table, and all functions that read it, with its content.
func agree(t *testing.T, got api.PageTable, m model) {
	t.Helper()
	want := m.table()
	if !same(got, want) {
		t.Fatalf("got %v, want %v", got, want)
	}
	if e := Check(got); e != api.OK {
		t.Fatalf("Check(%v) = %d", got, e)
	}
	if l := List(got); !slices.Equal(l, m.list()) {
		t.Fatalf("List(%v) = %v, want %v", got, l, m.list())
	}
	if f := Frames(got); !slices.Equal(f, m.frames()) {
		t.Fatalf("Frames(%v) = %v, want %v", got, f, m.frames())
	}
}
