package cow

import (
	"fmt"
	"math"
	"math/rand"
	"slices"
	"testing"

	"estovers/api"
)

// limits are the limits of int and of the machine, and the numbers beside them.
func limits() []int {
	return []int{math.MinInt, math.MinInt + 1, -1 << 32, -512, -256, -8, -2, -1, 0, 1, 2, 7, 8, 9, 255, 256, 257, 511, 512, 513, 1<<20 - 1, 1 << 20, 1<<20 + 1, 1 << 32, math.MaxInt - 1, math.MaxInt}
}

// space returns a live space whose pages show these frames; those of writers may be written.
func space(frames []int, writers ...int) api.CowSpace {
	s := api.CowSpace{Live: true}
	for _, f := range frames {
		s.Pages = append(s.Pages, api.CowPage{Frame: f, Write: slices.Contains(writers, f)})
	}
	return s
}

// machine returns a machine with a number of frames that agree with its spaces, of which frame n has the word 70 + n.
func machine(size, frames int, spaces ...api.CowSpace) api.Cow {
	c := api.Cow{Size: size, Spaces: spaces, Frames: make([]api.CowFrame, frames)}
	for n := range c.Frames {
		if count := showing(c, n); count > 0 {
			c.Frames[n] = api.CowFrame{Count: count, Word: 70 + n}
		}
	}
	return c
}

// chapter returns the machine of the chapter's example after its last write that succeeds.
func chapter() api.Cow {
	return api.Cow{
		Size:   2,
		Spaces: []api.CowSpace{space([]int{-1, 0}, 0), space([]int{2, 1}, 1, 2)},
		Frames: []api.CowFrame{{Count: 1, Word: 9}, {Count: 1, Word: 8}, {Count: 1, Word: 5}},
		Copies: 1,
	}
}

// spacesOf calls f for all lists of a number of spaces with up to size pages, each dead or alive; f may not keep them.
func spacesOf(number, size int, pages []api.CowPage, f func(l []api.CowSpace)) {
	l := make([]api.CowSpace, number)
	var fill func(at int)
	var fillPages func(at int)
	fillPages = func(at int) {
		fill(at + 1)
		if len(l[at].Pages) == size {
			return
		}
		for _, p := range pages {
			l[at].Pages = append(l[at].Pages, p)
			fillPages(at)
			l[at].Pages = l[at].Pages[:len(l[at].Pages)-1]
		}
	}
	fill = func(at int) {
		if at == number {
			f(l)
			return
		}
		for _, live := range []bool{false, true} {
			l[at] = api.CowSpace{Live: live}
			fillPages(at)
		}
	}
	fill(0)
}

// pagesOf returns all pages with the frames of a range, with and without Write.
func pagesOf(from, to int) []api.CowPage {
	var out []api.CowPage
	for f := from; f <= to; f++ {
		out = append(out, api.CowPage{Frame: f}, api.CowPage{Frame: f, Write: true})
	}
	return out
}

// P25.1: all small machines, valid and not.
func TestCheckSmall(t *testing.T) {
	var seen [api.ErrCorrupt + 1]int
	for number := range 3 {
		spacesOf(number, 2, pagesOf(-2, 1), func(l []api.CowSpace) {
			for size := 0; size <= 2; size++ {
				for frames := range 3 {
					c := machine(size, frames, l...)
					expectLooks(t, c)
					seen[checked(c)]++
				}
			}
		})
	}
	for _, e := range []int{api.OK, api.ErrRange, api.ErrForm, api.ErrAccess} {
		if seen[e] < 50 {
			t.Errorf("only %d machines with %d", seen[e], e)
		}
	}
}

// P25.1: all small numbers of frames for some machines, of which few agree.
func TestCheckCounts(t *testing.T) {
	seen := 0
	values := []api.CowFrame{{Count: -1}, {}, {Word: 5}, {Word: -5}, {Count: 1}, {Count: 1, Word: 5}, {Count: 2}, {Count: 2, Word: 5}, {Count: 3}, {Count: 5, Word: 5}}
	for _, spaces := range [][]api.CowSpace{
		{{}}, {space([]int{-1, -1})}, {space([]int{0, -1}, 0)}, {space([]int{1, 0}, 0, 1)}, {space([]int{1, 1}, 1)}, {space([]int{1, 0}), space([]int{1, 0})},
		{space([]int{1, 0}, 0), {}, space([]int{1, -1})}, {space([]int{1, 0}, 1), {}, space([]int{1, -1})}, {{}, space([]int{0, 0}), space([]int{1, -1}, 1)},
	} {
		for _, f := range values {
			for _, g := range values {
				c := api.Cow{Size: 2, Spaces: spaces, Frames: []api.CowFrame{f, g}}
				expectLooks(t, c)
				if checked(c) == api.OK {
					seen++
				}
			}
		}
	}
	if seen < 10 {
		t.Errorf("only %d valid machines", seen)
	}
}

// P25.1: machines with an error, literally, and which error comes first.
func TestCheck(t *testing.T) {
	shared := []api.CowSpace{space([]int{0, 0}, 0)}
	for _, x := range []struct {
		what string
		c    api.Cow
		want int
	}{
		{"chapter", chapter(), api.OK},
		{"no machine", api.Cow{}, api.ErrRange},
		{"no pages", machine(0, 1, api.CowSpace{Live: true}), api.ErrRange},
		{"no space", machine(1, 1), api.ErrRange},
		{"no frame", machine(1, 0, space([]int{-1})), api.ErrRange},
		{"greatest", machine(512, 256, slices.Repeat([]api.CowSpace{space(slices.Repeat([]int{255}, 512))}, 8)...), api.OK},
		{"too many pages", machine(513, 256, space(slices.Repeat([]int{-1}, 513))), api.ErrRange},
		{"too many spaces", machine(1, 1, make([]api.CowSpace, 9)...), api.ErrRange},
		{"spaces that are not live", machine(1, 1, make([]api.CowSpace, 8)...), api.OK},
		{"too many frames", machine(1, 257, space([]int{-1})), api.ErrRange},
		{"most copies", api.Cow{Size: 1, Spaces: make([]api.CowSpace, 1), Frames: make([]api.CowFrame, 1), Copies: 1 << 20}, api.OK},
		{"too many copies", api.Cow{Size: 1, Spaces: make([]api.CowSpace, 1), Frames: make([]api.CowFrame, 1), Copies: 1<<20 + 1}, api.ErrRange},
		{"fewer copies than none", api.Cow{Size: 1, Spaces: make([]api.CowSpace, 1), Frames: make([]api.CowFrame, 1), Copies: -1}, api.ErrRange},
		{"too few pages", machine(2, 1, space([]int{0})), api.ErrForm},
		{"one page too many", machine(2, 1, space([]int{0, -1, -1})), api.ErrForm},
		{"pages of a space that is not live", machine(1, 1, api.CowSpace{Pages: []api.CowPage{{Frame: -1}}}), api.ErrForm},
		{"no such frame", machine(1, 2, space([]int{2})), api.ErrForm},
		{"below no frame", machine(1, 2, space([]int{-2})), api.ErrForm},
		{"writes no frame", machine(1, 2, space([]int{-1}, -1)), api.ErrForm},
		{"count", api.Cow{Size: 1, Spaces: []api.CowSpace{space([]int{0})}, Frames: make([]api.CowFrame, 1)}, api.ErrState},
		{"word of a free frame", api.Cow{Size: 1, Spaces: make([]api.CowSpace, 1), Frames: []api.CowFrame{{Word: -1}}}, api.ErrState},
		{"writes a shared frame", machine(2, 1, shared...), api.ErrAccess},
		{"range before form", api.Cow{Size: 2, Spaces: []api.CowSpace{{Live: true}}, Frames: make([]api.CowFrame, 1), Copies: -1}, api.ErrRange},
		{"form before state", api.Cow{Size: 2, Spaces: []api.CowSpace{space([]int{0, 1})}, Frames: make([]api.CowFrame, 1)}, api.ErrForm},
		{"state before access", api.Cow{Size: 2, Spaces: shared, Frames: []api.CowFrame{{Count: 2}, {Word: 1}}}, api.ErrState},
	} {
		expectLooks(t, x.c)
		if e := Check(x.c); e != x.want {
			t.Errorf("%s: Check = %d, want %d", x.what, e, x.want)
		}
		if n := Used(x.c); (n == -1) != (x.want != api.OK) {
			t.Errorf("%s: Used = %d", x.what, n)
		}
		for _, a := range []action{readAction(0, 0), writeAction(0, 0, 1), forkAction(0), unmapAction(0, 0), exitAction(0), readAction(9, 9), forkAction(9), exitAction(-1)} {
			expect(t, x.c, a)
		}
	}
}

// P25.1: numbers of all magnitudes.
func TestLimits(t *testing.T) {
	for _, n := range limits() {
		c := chapter()
		c.Size = n
		expectLooks(t, c)
		c = chapter()
		c.Copies = n
		expectLooks(t, c)
		expect(t, c, writeAction(1, 1, 3))
		c = chapter()
		c.Spaces[1].Pages[0].Frame = n
		expectLooks(t, c)
		c.Spaces[1].Pages[0].Write = false
		expectLooks(t, c)
		c = chapter()
		c.Frames[1].Count = n
		expectLooks(t, c)
		c = chapter()
		c.Frames[1].Word = n
		expectLooks(t, c)
		expect(t, c, readAction(1, 1))
		expect(t, c, writeAction(1, 1, n))
		expect(t, c, forkAction(n))
		expect(t, c, exitAction(n))
		for _, m := range limits() {
			expect(t, c, readAction(n, m))
			expect(t, c, writeAction(n, m, n))
			expect(t, c, unmapAction(n, m))
		}
	}
}

// P25.2: machines of all sizes, and those that there are not.
func TestNew(t *testing.T) {
	for _, frames := range append(limits(), 3, 100) {
		for _, size := range append(limits(), 3, 100) {
			c, e := New(frames, size)
			if frames < 1 || frames > 256 || size < 1 || size > 512 {
				if e != api.ErrRange || !same(c, api.Cow{}) {
					t.Errorf("New(%d, %d) = %v, %d", frames, size, c, e)
				}
				continue
			}
			if want := machine(size, frames, space(slices.Repeat([]int{-1}, size))); e != api.OK || !same(c, want) {
				t.Errorf("New(%d, %d) = %v, %d", frames, size, c, e)
			}
			expectLooks(t, c)
		}
	}
}

// P25.3 to P25.7: all calls for all small valid machines, and the errors of those that are not valid.
func TestSmall(t *testing.T) {
	valid, full := 0, 0
	for number := 1; number <= 2; number++ {
		spacesOf(number, 2, pagesOf(-1, 2), func(l []api.CowSpace) {
			for frames := 1; frames <= 3; frames++ {
				c := machine(2, frames, l...)
				if checked(c) != api.OK {
					continue
				}
				valid++
				for _, a := range actions(c) {
					if expect(t, c, a).e == api.ErrMemory {
						full++
					}
				}
			}
		})
	}
	if valid < 500 || full < 500 {
		t.Errorf("only %d valid machines, and %d writes without memory", valid, full)
	}
}

// P25.3 to P25.6: which error comes first.
func TestFirstError(t *testing.T) {
	wrong := chapter()
	wrong.Copies = -1
	dead := machine(2, 1, space([]int{0, 0}), api.CowSpace{})
	eight := machine(1, 1, append(make([]api.CowSpace, 7), space([]int{-1}))...)
	full := machine(2, 1, space([]int{0, 0}), space([]int{-1, -1}))
	for _, x := range []struct {
		c    api.Cow
		a    action
		want int
	}{
		{wrong, readAction(5, 5), api.ErrRange}, {wrong, writeAction(5, 5, 1), api.ErrRange}, {wrong, forkAction(5), api.ErrRange},
		{wrong, unmapAction(5, 5), api.ErrRange}, {wrong, exitAction(5), api.ErrRange},
		{chapter(), readAction(2, 5), api.ErrNone}, {chapter(), writeAction(2, 5, 1), api.ErrNone}, {chapter(), unmapAction(2, 5), api.ErrNone},
		{chapter(), readAction(-1, 0), api.ErrNone}, {chapter(), forkAction(2), api.ErrNone}, {chapter(), exitAction(2), api.ErrNone},
		{dead, readAction(1, -1), api.ErrNone}, {dead, writeAction(1, 2, 1), api.ErrNone}, {dead, unmapAction(1, 0), api.ErrNone},
		{dead, forkAction(1), api.ErrNone}, {dead, exitAction(1), api.ErrNone}, {dead, exitAction(0), api.OK},
		{chapter(), readAction(1, 2), api.ErrRange}, {chapter(), writeAction(1, -1, 1), api.ErrRange}, {chapter(), unmapAction(1, 2), api.ErrRange},
		{eight, forkAction(0), api.ErrNone}, {eight, forkAction(8), api.ErrNone}, {eight, forkAction(7), api.ErrLimit},
		{full, writeAction(1, 2, 1), api.ErrRange}, {full, writeAction(2, 0, 1), api.ErrNone}, {full, writeAction(1, 0, 1), api.ErrMemory},
		{full, writeAction(0, 0, 1), api.ErrMemory}, {full, unmapAction(1, 0), api.OK}, {full, forkAction(0), api.OK},
	} {
		got := expect(t, x.c, x.a)
		if got.e != x.want || got.e != api.OK && !got.same(refuse(got.e)) {
			t.Errorf("%s of %v = %v, want %d", x.a.what, x.c, got, x.want)
		}
	}
}

// P25.4: the number of copies does not exceed its limit.
func TestCopiesEnd(t *testing.T) {
	for _, copies := range []int{1<<20 - 2, 1<<20 - 1, 1 << 20} {
		c := machine(3, 4, space([]int{0, 0, 0}))
		c.Copies = copies
		c = expect(t, c, writeAction(0, 0, 1)).c
		if c.Copies != min(copies+1, 1<<20) {
			t.Errorf("%d copies after %d", c.Copies, copies)
		}
		c = expect(t, c, writeAction(0, 2, 1)).c
		if c.Copies != min(copies+2, 1<<20) {
			t.Errorf("%d copies after %d", c.Copies, copies)
		}
	}
}

// plain is a machine that copies all words at once: for each space the word of each page, and which write it has been written by.
type plain struct {
	live   []bool
	words  [][]int
	writes [][]int
	clock  int
	copies int
}

// isShared reports whether another page still shows what a page shows, through forks.
func (m *plain) isShared(space, page int) bool {
	count := 0
	for _, l := range m.writes {
		for _, w := range l {
			if w == m.writes[space][page] {
				count++
			}
		}
	}
	return m.writes[space][page] != 0 && count > 1
}

func (m *plain) write(space, page, word int) {
	if m.isShared(space, page) {
		m.copies++
	}
	m.clock++
	m.words[space][page], m.writes[space][page] = word, m.clock
}

func (m *plain) fork(space int) {
	m.live = append(m.live, true)
	m.words = append(m.words, slices.Clone(m.words[space]))
	m.writes = append(m.writes, slices.Clone(m.writes[space]))
}

func (m *plain) unmap(space, page int) { m.words[space][page], m.writes[space][page] = 0, 0 }

func (m *plain) exit(space int) {
	m.live[space], m.words[space], m.writes[space] = false, nil, nil
}

// needs returns the number of frames that the machine c needs at most, so that writes find one.
func needs(c api.Cow) int {
	live := 0
	for _, s := range c.Spaces {
		if s.Live {
			live++
		}
	}
	return live * c.Size
}

// step carries out a random call on both machines.
func step(t *testing.T, random *rand.Rand, c api.Cow, m *plain) (api.Cow, int) {
	t.Helper()
	at, page, word := random.Intn(len(c.Spaces)), random.Intn(c.Size), random.Intn(100)
	switch choice := random.Intn(40); {
	case choice < 25:
		got := expect(t, c, writeAction(at, page, word))
		switch {
		case got.e == api.OK:
			m.write(at, page, word)
		case got.e == api.ErrMemory && len(c.Frames) >= needs(c):
			t.Fatalf("Write(%d, %d) of %v: no memory", at, page, c)
		case got.e == api.ErrMemory && m.writes[at][page] != 0 && !m.isShared(at, page):
			t.Fatalf("Write(%d, %d) of %v: no memory for a page that nobody shares", at, page, c)
		}
		return got.c, got.e
	case choice < 32:
		got := expect(t, c, unmapAction(at, page))
		if got.e == api.OK {
			m.unmap(at, page)
		}
		return got.c, got.e
	case choice < 37:
		got := expect(t, c, forkAction(at))
		if got.e == api.OK {
			m.fork(at)
			expectFork(t, c, got)
		}
		return got.c, got.e
	}
	got := expect(t, c, exitAction(at))
	if got.e == api.OK {
		m.exit(at)
	}
	return got.c, got.e
}

// expectFork checks that a fork uses no frame and copies no word.
func expectFork(t *testing.T, before api.Cow, after outcome) {
	t.Helper()
	isSameWord := func(a, b api.CowFrame) bool { return a.Word == b.Word }
	if Used(before) != Used(after.c) || before.Copies != after.c.Copies || !slices.EqualFunc(before.Frames, after.c.Frames, isSameWord) {
		t.Fatalf("a fork of %v copies: %v", before, after.c)
	}
}

// expectPlain checks that both machines show the same, and have copied the same.
func expectPlain(t *testing.T, c api.Cow, m *plain) {
	t.Helper()
	if c.Copies != m.copies {
		t.Fatalf("%v has copied %d words, want %d", c, c.Copies, m.copies)
	}
	for at, live := range m.live {
		for page := range c.Size {
			word, e := Read(c, at, page)
			if live && (e != api.OK || word != m.words[at][page]) || !live && e != api.ErrNone {
				t.Fatalf("Read(%d, %d) of %v = %d, %d", at, page, c, word, e)
			}
		}
	}
}

// P25.8: spaces read as if each fork had copied all words, and the copies are exactly those that are needed.
func TestConsequences(t *testing.T) {
	random := rand.New(rand.NewSource(1))
	seen := map[int]int{}
	copies, enough := 0, 0
	for range 400 {
		size := 1 + random.Intn(4)
		frames := 1 + random.Intn(8*size)
		c, e := New(frames, size)
		if e != api.OK {
			t.Fatalf("New(%d, %d) = %d", frames, size, e)
		}
		m := &plain{live: []bool{true}, words: [][]int{make([]int, size)}, writes: [][]int{make([]int, size)}}
		for range 120 {
			if len(c.Frames) >= needs(c) {
				enough++
			}
			next, e := step(t, random, c, m)
			seen[e]++
			if e == api.OK {
				c = next
			}
			expectPlain(t, c, m)
		}
		copies += c.Copies
	}
	if seen[api.OK] < 5000 || seen[api.ErrMemory] < 500 || seen[api.ErrNone] < 500 || seen[api.ErrLimit] < 50 || copies < 1000 || enough < 5000 {
		t.Errorf("too few cases: %v, %d copies, %d with enough frames", seen, copies, enough)
	}
}

// P25.8: what a space reads does not depend on what any other space does.
func TestSpacesAreApart(t *testing.T) {
	c := machine(3, 12, space([]int{0, 1, -1}, 1), space([]int{0, 2, -1}), space([]int{2, 0, 3}, 3))
	if Check(c) != api.OK {
		t.Fatalf("%v is not valid", c)
	}
	seen := 0
	for other := range 3 {
		list := []action{forkAction(other), exitAction(other)}
		for page := range 3 {
			list = append(list, writeAction(other, page, 99), unmapAction(other, page))
		}
		for _, a := range list {
			got := expect(t, c, a)
			for own := range 3 {
				for page := range 3 {
					before, _ := Read(c, own, page)
					after, e := Read(got.c, own, page)
					if own != other && (e != api.OK || before != after) {
						t.Errorf("%s changes page %d of space %d from %d to %d, %d", a.what, page, own, before, after, e)
					}
					seen++
				}
			}
		}
	}
	if seen < 200 {
		t.Errorf("only %d cases", seen)
	}
}

// P25.4 to P25.6: the greatest machine.
func TestGreatest(t *testing.T) {
	c, _ := New(256, 512)
	for page := range 256 {
		c, _ = Write(c, 0, page, page+1)
	}
	if got := expect(t, c, writeAction(0, 511, 1)); got.e != api.ErrMemory || Used(c) != 256 {
		t.Fatalf("Write into a full machine = %d, Used = %d", got.e, Used(c))
	}
	for number := 1; number < 8; number++ {
		got := expect(t, c, forkAction(number-1))
		if got.e != api.OK || got.number != number || Used(got.c) != 256 {
			t.Fatalf("Fork(%d) = %d, %d", number-1, got.number, got.e)
		}
		c = got.c
	}
	if got := expect(t, c, forkAction(0)); got.e != api.ErrLimit {
		t.Fatalf("the ninth space: %d", got.e)
	}
	if got := expect(t, c, writeAction(7, 255, 1)); got.e != api.ErrMemory {
		t.Fatalf("a copy in a full machine: %d", got.e)
	}
	for number := range 8 {
		if c.Frames[255].Count != 8-number {
			t.Fatalf("frame 255 is shown by %d pages", c.Frames[255].Count)
		}
		c = expect(t, c, exitAction(number)).c
	}
	if Used(c) != 0 || Check(c) != api.OK || !slices.Equal(c.Frames, make([]api.CowFrame, 256)) {
		t.Fatalf("Used = %d after all have left", Used(c))
	}
}

// withMarks returns a copy whose lists have spare capacity with marks in it.
func withMarks(c api.Cow) api.Cow {
	out := deepCopy(c)
	for i, s := range out.Spaces {
		out.Spaces[i].Pages = append(s.Pages, api.CowPage{Frame: 991})[:len(s.Pages)]
	}
	out.Spaces = append(out.Spaces, api.CowSpace{Live: true})[:len(c.Spaces)]
	out.Frames = append(out.Frames, api.CowFrame{Count: 992})[:len(c.Frames)]
	return out
}

// areMarked reports whether c is still as withMarks has made it.
func areMarked(c, before api.Cow) bool {
	for _, s := range c.Spaces {
		if s.Pages[:len(s.Pages)+1][len(s.Pages)] != (api.CowPage{Frame: 991}) {
			return false
		}
	}
	return same(c, before) && c.Spaces[:len(c.Spaces)+1][len(c.Spaces)].Live && c.Frames[:len(c.Frames)+1][len(c.Frames)].Count == 992
}

// overwrite changes everything in c, and behind its lists.
func overwrite(c api.Cow) {
	for i, s := range c.Spaces {
		for page := range s.Pages {
			s.Pages[page] = api.CowPage{Frame: 7}
		}
		_ = append(s.Pages, api.CowPage{Frame: 8})
		c.Spaces[i] = api.CowSpace{}
	}
	for i := range c.Frames {
		c.Frames[i] = api.CowFrame{Count: 7}
	}
	_, _ = append(c.Spaces, api.CowSpace{}), append(c.Frames, api.CowFrame{})
}

// Rule 'Values': arguments are neither changed nor kept, and results share no memory with them.
func TestValues(t *testing.T) {
	for _, c := range []api.Cow{chapter(), machine(2, 4, space([]int{0, 1}, 0), api.CowSpace{}, space([]int{1, 2})), machine(1, 2, space([]int{0}), space([]int{0}))} {
		for _, a := range actions(c) {
			argument := withMarks(c)
			got := a.do(argument)
			if !areMarked(argument, c) {
				t.Fatalf("%s: the argument has changed", a.what)
			}
			want := outcome{deepCopy(got.c), got.number, got.e}
			overwrite(argument)
			if !got.same(want) {
				t.Fatalf("%s: the result changes with the argument", a.what)
			}
			argument = withMarks(c)
			overwrite(a.do(argument).c)
			if !areMarked(argument, c) {
				t.Fatalf("%s: the argument changes with the result", a.what)
			}
		}
		argument := withMarks(c)
		Check(argument)
		Used(argument)
		if !areMarked(argument, c) {
			t.Fatalf("Check or Used has changed its argument")
		}
	}
}

// Rule 'Values': what is written into a list of a result, or behind it, is in no other list of it.
func TestListsAreApart(t *testing.T) {
	c := machine(2, 4, space([]int{0, 1}, 0), space([]int{1, 2}), api.CowSpace{})
	for _, a := range append(actions(c), action{what: "New", do: func(api.Cow) outcome {
		c, e := New(3, 2)
		return outcome{c: c, e: e}
	}}) {
		got := a.do(c).c
		for at := range got.Spaces {
			want := deepCopy(got)
			overwrite(api.Cow{Spaces: []api.CowSpace{got.Spaces[at]}})
			got.Spaces[at] = want.Spaces[at]
			if !same(got, want) {
				t.Fatalf("%s: lists of the result share memory", a.what)
			}
		}
	}
}

// The example of the chapter.
func TestExample(t *testing.T) {
	c, e := New(3, 2)
	step := func(a action, number, e int) {
		t.Helper()
		got := expect(t, c, a)
		if got.number != number || got.e != e {
			t.Fatalf("%s = %d, %d, want %d, %d", a.what, got.number, got.e, number, e)
		}
		if got.c.Size > 0 {
			c = got.c
		}
	}
	step(writeAction(0, 1, 7), 0, e)
	if c.Spaces[0].Pages[1] != (api.CowPage{Frame: 0, Write: true}) {
		t.Errorf("page 1 is %v", c.Spaces[0].Pages[1])
	}
	step(forkAction(0), 1, api.OK)
	if n := Used(c); n != 1 {
		t.Errorf("Used = %d", n)
	}
	step(writeAction(1, 1, 8), 0, api.OK)
	if c.Spaces[1].Pages[1] != (api.CowPage{Frame: 1, Write: true}) || c.Copies != 1 {
		t.Errorf("page 1 of space 1 is %v, with %d copies", c.Spaces[1].Pages[1], c.Copies)
	}
	step(readAction(0, 1), 7, api.OK)
	step(writeAction(0, 1, 9), 0, api.OK)
	if c.Copies != 1 || Used(c) != 2 {
		t.Errorf("%d copies, %d frames", c.Copies, Used(c))
	}
	step(writeAction(1, 0, 5), 0, api.OK)
	if !same(c, chapter()) {
		t.Errorf("the machine is %v, want %v", c, chapter())
	}
	step(writeAction(0, 0, 6), 0, api.ErrMemory)
	step(exitAction(1), 0, api.OK)
	step(writeAction(0, 0, 6), 0, api.OK)
	if c.Spaces[0].Pages[0] != (api.CowPage{Frame: 1, Write: true}) {
		t.Errorf("page 0 is %v", c.Spaces[0].Pages[0])
	}
	if got := fmt.Sprint(c.Spaces[1]); got != fmt.Sprint(api.CowSpace{}) {
		t.Errorf("space 1 is %s", got)
	}
}
