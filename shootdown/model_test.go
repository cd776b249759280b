package shootdown

import (
	"fmt"
	"slices"
	"testing"

	"estovers/api"
	"estovers/tlb"
)

// Flags of a page word.
const (
	writable = 1
	accessed = 2
	dirty    = 4
)

// pageWord is the word of a page, by its bits as the chapter of layer 5 gives them.
func pageWord(frame, flags int) uint64 { return uint64(1 + 8*flags + 256*frame) }

func frameIn(w uint64) int      { return int(w >> 8) }
func has(w uint64, on int) bool { return int(w>>3)&on == on }

// isPageWord reports whether a word may stand for a mapped page of s.
func isPageWord(s api.Shoot, w uint64) bool {
	return w&7 == 1 && w&64 == 0 && w&128 == 0 && w>>8 < uint64(len(s.Words))
}

// checked is the promise of Check.
func checked(s api.Shoot) int {
	if len(s.Tlbs) < 1 || len(s.Tlbs) > 4 || len(s.Pending) != len(s.Tlbs) || len(s.Words) < 1 || len(s.Words) > 256 || len(s.Table) < 1 || len(s.Table) > 512 {
		return api.ErrRange
	}
	isNoPage := func(n int) bool { return n < 0 || n >= len(s.Table) }
	for _, w := range s.Table {
		if w != 0 && !isPageWord(s, w) {
			return api.ErrForm
		}
	}
	for _, b := range s.Tlbs {
		if tlb.Check(b) != api.OK {
			return api.ErrForm
		}
		for _, c := range b.Entries {
			if c.Space != 0 || isNoPage(c.Page) || !isPageWord(s, c.Entry) {
				return api.ErrForm
			}
		}
	}
	for _, l := range s.Pending {
		for _, v := range l {
			if v.Space != 0 || isNoPage(v.Page) || v.Own {
				return api.ErrForm
			}
		}
	}
	return checkedState(s)
}

// checkedState is the last part of the promise of Check.
func checkedState(s api.Shoot) int {
	for i, w := range s.Table {
		for _, before := range s.Table[:i] {
			if w != 0 && before != 0 && frameIn(w) == frameIn(before) {
				return api.ErrState
			}
		}
	}
	for i, l := range s.Limbo {
		isNone := l.Frame < 0 || l.Frame >= len(s.Words)
		isTwice := slices.ContainsFunc(s.Limbo[:i], func(o api.Limbo) bool { return o.Frame == l.Frame })
		if isNone || isTwice || pageOf(s, l.Frame) >= 0 || l.Acks <= 0 || l.Acks > 1<<len(s.Tlbs)-1 {
			return api.ErrState
		}
		for cpu := range s.Tlbs {
			if l.Acks&(1<<cpu) != 0 && len(s.Pending[cpu]) == 0 {
				return api.ErrState
			}
		}
	}
	for cpu, b := range s.Tlbs {
		for _, c := range b.Entries {
			if !inTable(s, c) && !inDoubt(s, cpu, c) {
				return api.ErrState
			}
		}
	}
	return api.OK
}

// pageOf returns the page that is mapped to a frame, or -1.
func pageOf(s api.Shoot, frame int) int {
	return slices.IndexFunc(s.Table, func(w uint64) bool { return w != 0 && frameIn(w) == frame })
}

// inTable is the condition (a) of Check.
func inTable(s api.Shoot, c api.TlbEntry) bool {
	w := s.Table[c.Page]
	return w != 0 && frameIn(w) == frameIn(c.Entry) && (!has(c.Entry, writable) || has(w, writable)) && (!has(c.Entry, dirty) || has(w, dirty))
}

// inDoubt is the condition (b) of Check.
func inDoubt(s api.Shoot, cpu int, c api.TlbEntry) bool {
	if !isOwed(s, cpu, c.Page) {
		return false
	}
	if w := s.Table[c.Page]; w != 0 && frameIn(w) == frameIn(c.Entry) {
		return true
	}
	for _, l := range s.Limbo {
		if l.Frame == frameIn(c.Entry) && l.Acks&(1<<cpu) != 0 {
			return true
		}
	}
	return false
}

func isOwed(s api.Shoot, cpu, page int) bool {
	for _, v := range s.Pending[cpu] {
		if v.Page == page {
			return true
		}
	}
	return false
}

// isFreeFrame reports whether no page is mapped to a frame and it is not in limbo.
func isFreeFrame(s api.Shoot, frame int) bool {
	return pageOf(s, frame) < 0 && !slices.ContainsFunc(s.Limbo, func(l api.Limbo) bool { return l.Frame == frame })
}

// cachedAt returns the place of a page in the cache of a processor, or -1.
func cachedAt(s api.Shoot, cpu, page int) int {
	return slices.IndexFunc(s.Tlbs[cpu].Entries, func(c api.TlbEntry) bool { return c.Page == page })
}

// dropped removes a page from the cache of a processor.
func dropped(s *api.Shoot, cpu, page int) {
	if i := cachedAt(*s, cpu, page); i >= 0 {
		s.Tlbs[cpu].Entries = append(s.Tlbs[cpu].Entries[:i], s.Tlbs[cpu].Entries[i+1:]...)
	}
}

// outcome is the result of a function.
type outcome struct {
	s    api.Shoot
	word int
	e    int
}

func (o outcome) same(p outcome) bool { return o.word == p.word && o.e == p.e && same(o.s, p.s) }

// action is a call of a function, and a direct reading of its promise for a valid machine.
type action struct {
	what string
	do   func(s api.Shoot) outcome
	read func(s api.Shoot) outcome
}

func refuse(e int) outcome { return outcome{e: e} }

func isOutside(n, count int) bool { return n < 0 || n >= count }

func mapAction(page, frame int, write bool) action {
	return action{fmt.Sprintf("Map(%d, %d, %t)", page, frame, write), func(s api.Shoot) outcome {
		out, e := Map(s, page, frame, write)
		return outcome{s: out, e: e}
	}, func(s api.Shoot) outcome {
		switch {
		case isOutside(page, len(s.Table)) || isOutside(frame, len(s.Words)):
			return refuse(api.ErrRange)
		case s.Table[page] != 0:
			return refuse(api.ErrExist)
		case !isFreeFrame(s, frame):
			return refuse(api.ErrBusy)
		}
		out := deepCopy(s)
		out.Words[frame] = 0
		out.Table[page] = pageWord(frame, 0)
		if write {
			out.Table[page] = pageWord(frame, writable)
		}
		return outcome{s: out}
	}}
}

// asked appends invalidations of a page, and returns the mask of the processors.
func asked(s *api.Shoot, page int) int {
	mask := 0
	for cpu := range s.Tlbs {
		if cachedAt(*s, cpu, page) >= 0 {
			s.Pending[cpu] = append(s.Pending[cpu], api.Inval{Page: page})
			mask += 1 << cpu
		}
	}
	return mask
}

func unmapAction(page int) action {
	return action{fmt.Sprintf("Unmap(%d)", page), func(s api.Shoot) outcome {
		out, e := Unmap(s, page)
		return outcome{s: out, e: e}
	}, func(s api.Shoot) outcome {
		switch {
		case isOutside(page, len(s.Table)):
			return refuse(api.ErrRange)
		case s.Table[page] == 0:
			return refuse(api.ErrNone)
		}
		out := deepCopy(s)
		out.Table[page] = 0
		if mask := asked(&out, page); mask > 0 {
			out.Limbo = append(out.Limbo, api.Limbo{Frame: frameIn(s.Table[page]), Acks: mask})
		}
		return outcome{s: out}
	}}
}

func protectAction(page int) action {
	return action{fmt.Sprintf("Protect(%d)", page), func(s api.Shoot) outcome {
		out, e := Protect(s, page)
		return outcome{s: out, e: e}
	}, func(s api.Shoot) outcome {
		switch {
		case isOutside(page, len(s.Table)):
			return refuse(api.ErrRange)
		case s.Table[page] == 0:
			return refuse(api.ErrNone)
		}
		out := deepCopy(s)
		if has(s.Table[page], writable) {
			out.Table[page] -= 8
			asked(&out, page)
		}
		return outcome{s: out}
	}}
}

func accessAction(cpu, page int, write bool, value int) action {
	return action{fmt.Sprintf("Access(%d, %d, %t, %d)", cpu, page, write, value), func(s api.Shoot) outcome {
		out, word, e := Access(s, cpu, page, write, value)
		return outcome{out, word, e}
	}, func(s api.Shoot) outcome {
		if isOutside(cpu, len(s.Tlbs)) || isOutside(page, len(s.Table)) {
			return refuse(api.ErrRange)
		}
		out := deepCopy(s)
		frame, e := reached(&out, cpu, page, write)
		if e != api.OK {
			return outcome{s: out, e: e}
		}
		if write {
			out.Words[frame] = value
		}
		return outcome{out, s.Words[frame], api.OK}
	}}
}

// reached returns the frame that an access to s uses, or its error, and changes s otherwise.
func reached(s *api.Shoot, cpu, page int, write bool) (int, int) {
	if i := cachedAt(*s, cpu, page); i >= 0 {
		if w := s.Tlbs[cpu].Entries[i].Entry; !write || has(w, writable+dirty) {
			return frameIn(w), api.OK
		}
	}
	dropped(s, cpu, page)
	w := s.Table[page]
	if w == 0 {
		return 0, api.ErrFault
	}
	if write && !has(w, writable) {
		return 0, api.ErrAccess
	}
	w |= 16
	if write {
		w |= 32
	}
	s.Table[page] = w
	b := &s.Tlbs[cpu]
	if len(b.Entries) == b.Size {
		b.Entries = b.Entries[1:]
	}
	b.Entries = append(b.Entries, api.TlbEntry{Page: page, Entry: w})
	return frameIn(w), api.OK
}

func ackAction(cpu int) action {
	return action{fmt.Sprintf("Ack(%d)", cpu), func(s api.Shoot) outcome {
		out, e := Ack(s, cpu)
		return outcome{s: out, e: e}
	}, func(s api.Shoot) outcome {
		if isOutside(cpu, len(s.Tlbs)) {
			return refuse(api.ErrRange)
		}
		out := deepCopy(s)
		for _, v := range s.Pending[cpu] {
			dropped(&out, cpu, v.Page)
		}
		out.Pending[cpu] = nil
		out.Limbo = nil
		for _, l := range s.Limbo {
			if l.Acks&(1<<cpu) != 0 {
				l.Acks -= 1 << cpu
			}
			if l.Acks != 0 {
				out.Limbo = append(out.Limbo, l)
			}
		}
		return outcome{s: out}
	}}
}

// isQuiet and freeFrames are the promises of Quiet and Free.
func isQuiet(s api.Shoot) bool {
	for _, l := range s.Pending {
		if len(l) > 0 {
			return false
		}
	}
	return checked(s) == api.OK
}

func freeFrames(s api.Shoot) []int {
	if checked(s) != api.OK {
		return nil
	}
	var out []int
	for frame := range s.Words {
		if isFreeFrame(s, frame) {
			out = append(out, frame)
		}
	}
	return out
}

func deepCopy(s api.Shoot) api.Shoot {
	out := api.Shoot{Table: slices.Clone(s.Table), Limbo: slices.Clone(s.Limbo), Words: slices.Clone(s.Words)}
	for _, b := range s.Tlbs {
		out.Tlbs = append(out.Tlbs, api.Tlb{Size: b.Size, Entries: slices.Clone(b.Entries)})
	}
	for _, l := range s.Pending {
		out.Pending = append(out.Pending, slices.Clone(l))
	}
	return out
}

// same reports whether two machines are equal, where nil and empty lists are the same.
func same(a, b api.Shoot) bool {
	isSameCache := func(x, y api.Tlb) bool { return x.Size == y.Size && slices.Equal(x.Entries, y.Entries) }
	return slices.Equal(a.Table, b.Table) && slices.EqualFunc(a.Tlbs, b.Tlbs, isSameCache) && slices.EqualFunc(a.Pending, b.Pending, slices.Equal) &&
		slices.Equal(a.Limbo, b.Limbo) && slices.Equal(a.Words, b.Words)
}

// expect compares an action with the direct reading of its promise.
func expect(t *testing.T, s api.Shoot, a action) outcome {
	t.Helper()
	got, want := a.do(s), refuse(checked(s))
	if want.e == api.OK {
		want = a.read(s)
	}
	if !got.same(want) {
		t.Fatalf("%s of %v = %v, want %v", a.what, s, got, want)
	}
	// P9.8: each function returns valid machines.
	if e := checked(got.s); len(got.s.Table) > 0 && e != api.OK || len(got.s.Table) == 0 && got.e == api.OK {
		t.Fatalf("%s of %v = %v, which is not valid: %d", a.what, s, got, e)
	}
	return got
}

// expectLooks compares Check, Quiet and Free with their promises.
func expectLooks(t *testing.T, s api.Shoot) {
	t.Helper()
	if e := Check(s); e != checked(s) {
		t.Fatalf("Check(%v) = %d, want %d", s, e, checked(s))
	}
	if q := Quiet(s); q != isQuiet(s) {
		t.Fatalf("Quiet(%v) = %t", s, q)
	}
	if f := Free(s); !slices.Equal(f, freeFrames(s)) {
		t.Fatalf("Free(%v) = %v, want %v", s, f, freeFrames(s))
	}
}

// actions are calls with all small arguments for a machine, and some that name nothing in it.
func actions(s api.Shoot) []action {
	var out []action
	for page := -1; page <= len(s.Table); page++ {
		for frame := -1; frame <= len(s.Words); frame++ {
			out = append(out, mapAction(page, frame, false), mapAction(page, frame, true))
		}
		for cpu := -1; cpu <= len(s.Tlbs); cpu++ {
			out = append(out, accessAction(cpu, page, false, 77), accessAction(cpu, page, true, 78))
		}
		out = append(out, unmapAction(page), protectAction(page))
	}
	for cpu := -1; cpu <= len(s.Tlbs); cpu++ {
		out = append(out, ackAction(cpu))
	}
	return out
}
