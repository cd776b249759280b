package cow

import (
	"fmt"
	"slices"
	"testing"

	"estovers/api"
)

// checked is the promise of Check.
func checked(c api.Cow) int {
	if c.Size < 1 || c.Size > 512 || len(c.Spaces) < 1 || len(c.Spaces) > 8 || len(c.Frames) < 1 || len(c.Frames) > 256 || c.Copies < 0 || c.Copies > 1<<20 {
		return api.ErrRange
	}
	for _, s := range c.Spaces {
		want := 0
		if s.Live {
			want = c.Size
		}
		if len(s.Pages) != want {
			return api.ErrForm
		}
		for _, p := range s.Pages {
			if p.Frame < -1 || p.Frame >= len(c.Frames) || p.Frame == -1 && p.Write {
				return api.ErrForm
			}
		}
	}
	for frame, f := range c.Frames {
		if f.Count != showing(c, frame) || f.Count == 0 && f.Word != 0 {
			return api.ErrState
		}
	}
	for _, s := range c.Spaces {
		for _, p := range s.Pages {
			if p.Write && c.Frames[p.Frame].Count != 1 {
				return api.ErrAccess
			}
		}
	}
	return api.OK
}

// showing returns the number of pages that show a frame.
func showing(c api.Cow, frame int) int {
	count := 0
	for _, s := range c.Spaces {
		for _, p := range s.Pages {
			if p.Frame == frame {
				count++
			}
		}
	}
	return count
}

// lowestFree returns the lowest frame whose Count is 0, or -1.
func lowestFree(c api.Cow) int {
	for frame, f := range c.Frames {
		if f.Count == 0 {
			return frame
		}
	}
	return -1
}

// outcome is what an action returns; number is the word or the space.
type outcome struct {
	c      api.Cow
	number int
	e      int
}

func refuse(e int) outcome { return outcome{e: e} }

func (o outcome) same(p outcome) bool { return same(o.c, p.c) && o.number == p.number && o.e == p.e }

// action is a call, and the direct reading of its promise for a valid machine.
type action struct {
	what string
	do   func(c api.Cow) outcome
	read func(c api.Cow) outcome
}

// isNoSpace and isNoPage are the errors of a space and of a page of a valid machine.
func isNoSpace(c api.Cow, space int) bool {
	for n, s := range c.Spaces {
		if n == space && s.Live {
			return false
		}
	}
	return true
}

func isNoPage(c api.Cow, page int) bool { return page < 0 || page > c.Size-1 }

// refused returns the outcome of a space or a page that does not exist, and whether there is one.
func refused(c api.Cow, space, page int) (outcome, bool) {
	if isNoSpace(c, space) {
		return refuse(api.ErrNone), true
	}
	return refuse(api.ErrRange), isNoPage(c, page)
}

func readAction(space, page int) action {
	return action{fmt.Sprintf("Read(%d, %d)", space, page), func(c api.Cow) outcome {
		word, e := Read(c, space, page)
		return outcome{number: word, e: e}
	}, func(c api.Cow) outcome {
		if o, ok := refused(c, space, page); ok {
			return o
		}
		if p := c.Spaces[space].Pages[page]; p.Frame != -1 {
			return outcome{number: c.Frames[p.Frame].Word}
		}
		return outcome{}
	}}
}

func writeAction(space, page, word int) action {
	return action{fmt.Sprintf("Write(%d, %d, %d)", space, page, word), func(c api.Cow) outcome {
		out, e := Write(c, space, page, word)
		return outcome{c: out, e: e}
	}, func(c api.Cow) outcome {
		if o, ok := refused(c, space, page); ok {
			return o
		}
		frame, free, out := c.Spaces[space].Pages[page].Frame, lowestFree(c), deepCopy(c)
		if frame != -1 && c.Frames[frame].Count == 1 {
			out.Spaces[space].Pages[page].Write = true
			out.Frames[frame].Word = word
			return outcome{c: out}
		}
		if free == -1 {
			return refuse(api.ErrMemory)
		}
		if frame != -1 {
			out.Frames[frame].Count--
			if out.Copies < 1<<20 {
				out.Copies++
			}
		}
		out.Frames[free] = api.CowFrame{Count: 1, Word: word}
		out.Spaces[space].Pages[page] = api.CowPage{Frame: free, Write: true}
		return outcome{c: out}
	}}
}

func forkAction(space int) action {
	return action{fmt.Sprintf("Fork(%d)", space), func(c api.Cow) outcome {
		out, number, e := Fork(c, space)
		return outcome{out, number, e}
	}, func(c api.Cow) outcome {
		if isNoSpace(c, space) {
			return refuse(api.ErrNone)
		}
		if len(c.Spaces) >= 8 {
			return refuse(api.ErrLimit)
		}
		out, added := deepCopy(c), api.CowSpace{Live: true}
		for page, p := range c.Spaces[space].Pages {
			out.Spaces[space].Pages[page].Write = false
			added.Pages = append(added.Pages, api.CowPage{Frame: p.Frame})
		}
		out.Spaces = append(out.Spaces, added)
		for frame := range out.Frames {
			out.Frames[frame].Count = showing(out, frame)
		}
		return outcome{c: out, number: len(c.Spaces)}
	}}
}

// unmapped is a copy of c in which a page shows no frame.
func unmapped(c api.Cow, space, page int) api.Cow {
	out := deepCopy(c)
	out.Spaces[space].Pages[page] = api.CowPage{Frame: -1}
	if frame := c.Spaces[space].Pages[page].Frame; frame != -1 {
		out.Frames[frame].Count = c.Frames[frame].Count - 1
		if out.Frames[frame].Count == 0 {
			out.Frames[frame].Word = 0
		}
	}
	return out
}

func unmapAction(space, page int) action {
	return action{fmt.Sprintf("Unmap(%d, %d)", space, page), func(c api.Cow) outcome {
		out, e := Unmap(c, space, page)
		return outcome{c: out, e: e}
	}, func(c api.Cow) outcome {
		if o, ok := refused(c, space, page); ok {
			return o
		}
		return outcome{c: unmapped(c, space, page)}
	}}
}

func exitAction(space int) action {
	return action{fmt.Sprintf("Exit(%d)", space), func(c api.Cow) outcome {
		out, e := Exit(c, space)
		return outcome{c: out, e: e}
	}, func(c api.Cow) outcome {
		if isNoSpace(c, space) {
			return refuse(api.ErrNone)
		}
		out := c
		for page := range c.Spaces[space].Pages {
			out = unmapped(out, space, page)
		}
		out.Spaces[space].Live, out.Spaces[space].Pages = false, nil
		return outcome{c: out}
	}}
}

// used is the promise of Used.
func used(c api.Cow) int {
	if checked(c) != api.OK {
		return -1
	}
	count := len(c.Frames)
	for _, f := range c.Frames {
		if f.Count == 0 {
			count--
		}
	}
	return count
}

func deepCopy(c api.Cow) api.Cow {
	out := api.Cow{Size: c.Size, Frames: append([]api.CowFrame(nil), c.Frames...), Copies: c.Copies}
	for _, s := range c.Spaces {
		out.Spaces = append(out.Spaces, api.CowSpace{Live: s.Live, Pages: append([]api.CowPage(nil), s.Pages...)})
	}
	return out
}

// same reports whether two machines are equal, where nil and empty lists are the same.
func same(a, b api.Cow) bool {
	isSameSpace := func(x, y api.CowSpace) bool { return x.Live == y.Live && slices.Equal(x.Pages, y.Pages) }
	return a.Size == b.Size && a.Copies == b.Copies && slices.Equal(a.Frames, b.Frames) && slices.EqualFunc(a.Spaces, b.Spaces, isSameSpace)
}

// expect compares an action with the direct reading of its promise.
func expect(t *testing.T, c api.Cow, a action) outcome {
	t.Helper()
	got, want := a.do(c), refuse(checked(c))
	if want.e == api.OK {
		want = a.read(c)
	}
	if !got.same(want) {
		t.Fatalf("%s of %v = %v, want %v", a.what, c, got, want)
	}
	// P25.8: all functions return valid machines.
	if got.c.Size > 0 && checked(got.c) != api.OK {
		t.Fatalf("%s of %v = %v, which is not valid: %d", a.what, c, got, checked(got.c))
	}
	return got
}

// expectLooks compares Check and Used with their promises.
func expectLooks(t *testing.T, c api.Cow) {
	t.Helper()
	if e := Check(c); e != checked(c) {
		t.Fatalf("Check(%v) = %d, want %d", c, e, checked(c))
	}
	if n := Used(c); n != used(c) {
		t.Fatalf("Used(%v) = %d, want %d", c, n, used(c))
	}
}

// actions are calls for all spaces and pages of a machine, and for some that it does not have.
func actions(c api.Cow) []action {
	var out []action
	for space := -1; space <= len(c.Spaces); space++ {
		out = append(out, forkAction(space), exitAction(space))
		for page := -1; page <= c.Size; page++ {
			out = append(out, readAction(space, page), writeAction(space, page, 8), writeAction(space, page, 0), unmapAction(space, page))
		}
	}
	return out
}
