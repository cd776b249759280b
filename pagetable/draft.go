package pagetable

import (
	"maps"
	"slices"

	"estovers/api"
	"estovers/pte"
)

const (
	// top is the level of the root.
	top = 2
	// levelBits is the number of bits of a page's number that a level resolves.
	levelBits = 3
	// groups is the number of groups of an address space.
	groups = api.Pages / api.HugePages
	// none is the word of an entry of the kind EntryNone.
	none uint64 = 0
)

// draft is a page table that can be changed: the tables by frame, the frames of the deposits by group.
type draft struct {
	root     int
	tables   map[int][api.Fan]uint64
	deposits map[int]int
}

// walk is the way from the root to the entry at which the walk for a page ends: the frames of its tables, by level, and the level and the word of that entry.
type walk struct {
	page   int
	frames [top + 1]int
	level  int
	entry  uint64
}

// isHuge reports whether the walk ends at a huge page.
func (w walk) isHuge() bool { return w.level == 1 && w.entry != none }

// span returns the number of pages to which an entry of a level belongs.
func span(level int) int { return 1 << (levelBits * level) }

// index returns the number of the entry for a page in its table of a level.
func index(page, level int) int { return page / span(level) % api.Fan }

func groupOf(page int) int { return page / api.HugePages }

// firstPage returns the first page of a group, and -1 for a group that does not exist.
func firstPage(group int) int {
	if !isGroup(group) {
		return -1
	}
	return group * api.HugePages
}

// wordOfTable returns the word of the entry that leads to the table in a frame.
func wordOfTable(frame int) uint64 {
	w, _ := pte.Encode(api.Entry{Kind: api.EntryTable, Number: frame})
	return w
}

// find returns a draft of t and the walk for a page: the error of Check, ErrRange.
func find(t api.PageTable, page int) (draft, walk, int) {
	d, e := open(t)
	if e != api.OK {
		return draft{}, walk{}, e
	}
	if page < 0 || page >= api.Pages {
		return draft{}, walk{}, api.ErrRange
	}
	return d, d.follow(page), api.OK
}

// newDraft returns a draft of t, whose frames and groups must be without error.
func newDraft(t api.PageTable) draft {
	d := draft{root: t.Root, tables: map[int][api.Fan]uint64{}, deposits: map[int]int{}}
	for _, n := range t.Nodes {
		d.tables[n.Frame] = n.Entries
	}
	for _, p := range t.Deposits {
		d.deposits[p.Group] = p.Frame
	}
	return d
}

// table returns the page table of which d is the draft.
func (d draft) table() api.PageTable {
	t := api.PageTable{Root: d.root}
	for _, frame := range slices.Sorted(maps.Keys(d.tables)) {
		t.Nodes = append(t.Nodes, api.Node{Frame: frame, Entries: d.tables[frame]})
	}
	for _, group := range slices.Sorted(maps.Keys(d.deposits)) {
		t.Deposits = append(t.Deposits, api.Deposit{Group: group, Frame: d.deposits[group]})
	}
	return t
}

// follow returns the walk for a page.
func (d draft) follow(page int) walk {
	w := walk{page: page, level: top}
	w.frames[top] = d.root
	for {
		w.entry = d.tables[w.frames[w.level]][index(page, w.level)]
		e, _ := pte.Decode(w.entry)
		if e.Kind != api.EntryTable {
			return w
		}
		w.level--
		w.frames[w.level] = e.Number
	}
}

// put writes the entry at the end of a walk.
func (d draft) put(w walk, entry uint64) {
	frame := w.frames[w.level]
	entries := d.tables[frame]
	entries[index(w.page, w.level)] = entry
	d.tables[frame] = entries
}

// extend lets a walk that ends at an entry of the kind EntryNone go on through a new table in each of the frames.
func (d draft) extend(w walk, frames []int) walk {
	for _, frame := range frames {
		d.put(w, wordOfTable(frame))
		d.tables[frame] = [api.Fan]uint64{}
		w.level--
		w.frames[w.level] = frame
	}
	return w
}

// remove removes the entry at the end of a walk, the deposit of a huge page and the tables that have become empty, and returns the frames of what was removed.
func (d draft) remove(w walk) []int {
	var free []int
	if w.isHuge() {
		group := groupOf(w.page)
		free = append(free, d.deposits[group])
		delete(d.deposits, group)
	}
	d.put(w, none)
	for w.level < top && d.isEmpty(w.frames[w.level]) {
		free = append(free, w.frames[w.level])
		delete(d.tables, w.frames[w.level])
		w.level++
		d.put(w, none)
	}
	return free
}

// isEmpty reports whether the table in a frame has no entries.
func (d draft) isEmpty(frame int) bool { return d.tables[frame] == [api.Fan]uint64{} }
