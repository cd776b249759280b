package pagetable

import (
	"slices"

	"estovers/api"
	"estovers/pte"
)

// lastFrame is the greatest number of a frame to which an entry can lead.
const lastFrame = 1<<32 - 1

// open returns a draft of t, or the error of Check.
func open(t api.PageTable) (draft, int) {
	if e := checkFrames(t); e != api.OK {
		return draft{}, e
	}
	d := newDraft(t)
	if _, ok := d.tables[t.Root]; !ok {
		return draft{}, api.ErrNone
	}
	if !d.isTree() {
		return draft{}, api.ErrForm
	}
	return d, api.OK
}

// checkFrames returns the error of the frames and groups of t, or OK: ErrRange, ErrOrder, ErrExist.
func checkFrames(t api.PageTable) int {
	frames := framesOf(t)
	if !areFrames(frames) {
		return api.ErrRange
	}
	for _, p := range t.Deposits {
		if !isGroup(p.Group) {
			return api.ErrRange
		}
	}
	for n := 1; n < len(t.Nodes); n++ {
		if t.Nodes[n].Frame <= t.Nodes[n-1].Frame {
			return api.ErrOrder
		}
	}
	for n := 1; n < len(t.Deposits); n++ {
		if t.Deposits[n].Group <= t.Deposits[n-1].Group {
			return api.ErrOrder
		}
	}
	if !areDifferent(frames) {
		return api.ErrExist
	}
	return api.OK
}

// framesOf returns the frames of all nodes and deposits.
func framesOf(t api.PageTable) []int {
	var frames []int
	for _, n := range t.Nodes {
		frames = append(frames, n.Frame)
	}
	for _, p := range t.Deposits {
		frames = append(frames, p.Frame)
	}
	return frames
}

// accepts reports whether frames are count frames that can become tables and deposits of t.
func accepts(t api.PageTable, frames []int, count int) bool {
	if len(frames) != count || !areFrames(frames) {
		return false
	}
	return areDifferent(append(framesOf(t), frames...))
}

// areFrames reports whether an entry can lead to each of the frames.
func areFrames(frames []int) bool {
	for _, f := range frames {
		if !isFrame(f) {
			return false
		}
	}
	return true
}

// areDifferent reports whether no frame occurs twice.
func areDifferent(frames []int) bool {
	sorted := slices.Clone(frames)
	slices.Sort(sorted)
	return len(slices.Compact(sorted)) == len(frames)
}

// isTree reports whether all tables form a tree of entries that suit their levels, with a deposit for each huge page and no other.
func (d draft) isTree() bool {
	seen := map[int]bool{d.root: true}
	huge := 0
	var visit func(frame, level, first int) bool
	visit = func(frame, level, first int) bool {
		for i, w := range d.tables[frame] {
			page := first + i*span(level)
			e, err := pte.Decode(w)
			if err != api.OK || !suits(e, level) {
				return false
			}
			if e.Huge {
				if _, ok := d.deposits[groupOf(page)]; !ok {
					return false
				}
				huge++
			}
			if e.Kind != api.EntryTable {
				continue
			}
			if _, ok := d.tables[e.Number]; !ok || seen[e.Number] {
				return false
			}
			seen[e.Number] = true
			if !visit(e.Number, level-1, page) {
				return false
			}
		}
		return true
	}
	return visit(d.root, top, 0) && len(seen) == len(d.tables) && huge == len(d.deposits)
}

// suits reports whether a well-formed entry may stand in a table of a level.
func suits(e api.Entry, level int) bool {
	switch e.Kind {
	case api.EntryNone:
		return true
	case api.EntryTable:
		return level > 0
	case api.EntryPage:
		return level == 0 && !e.Huge || level == 1 && e.Huge
	}
	return level == 0
}

// fits reports whether a word can be the entry of a page in a table of level 0, or of a huge page in one of level 1.
func fits(word uint64, level int) bool {
	e, err := pte.Decode(word)
	return err == api.OK && e.Kind != api.EntryNone && e.Kind != api.EntryTable && suits(e, level)
}

func isFrame(f int) bool { return f >= 0 && f <= lastFrame }

func isGroup(g int) bool { return g >= 0 && g < groups }
