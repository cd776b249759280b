package cow

import (
	"slices"

	"estovers/api"
)

func hasSizes(c api.Cow) bool {
	return isCount(c.Size, api.Pages) && isCount(len(c.Spaces), api.MaxProcs) && isCount(len(c.Frames), api.MaxFrames) &&
		c.Copies >= 0 && c.Copies <= api.MaxCharge
}

// isFormed reports whether exactly the live spaces have pages, as many as they must have, and each shows a frame or nothing.
func isFormed(c api.Cow) bool {
	for _, s := range c.Spaces {
		if s.Live && len(s.Pages) != c.Size || !s.Live && len(s.Pages) > 0 {
			return false
		}
		for _, p := range s.Pages {
			if p != nothing() && (p.Frame < 0 || p.Frame >= len(c.Frames)) {
				return false
			}
		}
	}
	return true
}

// isCounted reports whether each frame counts the pages that show it, and the free ones hold no word.
func isCounted(c api.Cow) bool {
	counts := make([]int, len(c.Frames))
	for _, s := range c.Spaces {
		for _, p := range s.Pages {
			if p.Frame >= 0 {
				counts[p.Frame]++
			}
		}
	}
	for i, f := range c.Frames {
		if f.Count != counts[i] || isFree(f) && f.Word != 0 {
			return false
		}
	}
	return true
}

// writesShared reports whether some page may write a frame that others show too.
func writesShared(c api.Cow) bool {
	for _, s := range c.Spaces {
		for _, p := range s.Pages {
			if p.Write && c.Frames[p.Frame].Count != 1 {
				return true
			}
		}
	}
	return false
}

// checkSpace returns the error of Check, or ErrNone if there is no such live space.
func checkSpace(c api.Cow, space int) int {
	if e := Check(c); e != api.OK {
		return e
	}
	if space < 0 || space >= len(c.Spaces) || !c.Spaces[space].Live {
		return api.ErrNone
	}
	return api.OK
}

// checkPage returns the error of checkSpace, or ErrRange if there is no such page.
func checkPage(c api.Cow, space, page int) int {
	if e := checkSpace(c, space); e != api.OK {
		return e
	}
	if page < 0 || page >= c.Size {
		return api.ErrRange
	}
	return api.OK
}

// hide makes a page of c show nothing, and clears the word of its frame if no other page shows that.
func hide(c *api.Cow, space, page int) {
	p := &c.Spaces[space].Pages[page]
	if p.Frame >= 0 {
		f := &c.Frames[p.Frame]
		f.Count--
		if isFree(*f) {
			f.Word = 0
		}
	}
	*p = nothing()
}

// clone returns a machine that shares no memory with c.
func clone(c api.Cow) api.Cow {
	c.Frames = slices.Clone(c.Frames)
	c.Spaces = slices.Clone(c.Spaces)
	for i := range c.Spaces {
		c.Spaces[i].Pages = slices.Clone(c.Spaces[i].Pages)
	}
	return c
}

// nothing is a page that shows no frame.
func nothing() api.CowPage { return api.CowPage{Frame: -1} }

func isFree(f api.CowFrame) bool { return f.Count == 0 }

func isCount(n, most int) bool { return n >= 1 && n <= most }
