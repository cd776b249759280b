package shootdown

import (
	"math"
	"math/rand"
	"slices"
	"testing"

	"estovers/api"
)

// limits are numbers that name nothing in any machine.
func limits() []int { return []int{math.MinInt, -1, 512, 1 << 32, math.MaxInt} }

// P9.2
func TestNew(t *testing.T) {
	numbers := append(limits(), 0, 1, 2, 4, 5, 16, 17, 256, 257, 511, 513)
	for _, cpus := range numbers {
		for _, size := range numbers {
			for _, frames := range numbers {
				for _, pages := range numbers {
					expectNew(t, cpus, size, frames, pages)
				}
			}
		}
	}
}

func expectNew(t *testing.T, cpus, size, frames, pages int) {
	t.Helper()
	got, e := New(cpus, size, frames, pages)
	want, wantError := api.Shoot{}, api.ErrRange
	if cpus >= 1 && cpus <= 4 && size >= 1 && size <= 16 && frames >= 1 && frames <= 256 && pages >= 1 && pages <= 512 {
		want, wantError = api.Shoot{Table: make([]uint64, pages), Pending: make([][]api.Inval, cpus), Words: make([]int, frames)}, api.OK
		for range cpus {
			want.Tlbs = append(want.Tlbs, api.Tlb{Size: size})
		}
	}
	if e != wantError || !same(got, want) {
		t.Fatalf("New(%d, %d, %d, %d) = %v, %d, want %v, %d", cpus, size, frames, pages, got, e, want, wantError)
	}
	if e == api.OK && (Check(got) != api.OK || !Quiet(got) || len(Free(got)) != frames) {
		t.Fatalf("New(%d, %d, %d, %d): Check is %d, Quiet is %t, Free is %v", cpus, size, frames, pages, Check(got), Quiet(got), Free(got))
	}
}

// sample returns a machine with 3 processors, 6 pages and 6 frames: page 0 is mapped to frame 0 and written, page 1 to frame 1 and was read, page 2 to frame 2 and was protected before processor 0 acknowledged, page 3 was unmapped from frame 3 and is mapped to frame 4, page 4 was unmapped from frame 5.
func sample() api.Shoot {
	entry := func(page, frame, flags int) api.TlbEntry {
		return api.TlbEntry{Page: page, Entry: pageWord(frame, flags)}
	}
	return api.Shoot{
		Table: []uint64{pageWord(0, 7), pageWord(1, 3), pageWord(2, 6), pageWord(4, 1), 0, 0},
		Tlbs: []api.Tlb{
			{Size: 4, Entries: []api.TlbEntry{entry(0, 0, 3), entry(2, 2, 7), entry(3, 3, 7), entry(4, 5, 2)}},
			{Size: 3, Entries: []api.TlbEntry{entry(4, 5, 7), entry(0, 0, 7), entry(1, 1, 3)}},
			{Size: 16, Entries: []api.TlbEntry{entry(2, 2, 6)}},
		},
		Pending: [][]api.Inval{{{Page: 2}, {Page: 3}, {Page: 4}}, {{Page: 4}}, nil},
		Limbo:   []api.Limbo{{Frame: 3, Acks: 1}, {Frame: 5, Acks: 3}},
		Words:   []int{10, -11, math.MaxInt, 13, math.MinInt, 15},
	}
}

// P9.1: the sizes.
func TestCheckSizes(t *testing.T) {
	for _, c := range []struct {
		cpus, pending, frames, pages int
		want                         int
	}{
		{1, 1, 1, 1, api.OK}, {4, 4, 256, 512, api.OK}, {0, 0, 1, 1, api.ErrRange}, {5, 5, 1, 1, api.ErrRange},
		{2, 1, 1, 1, api.ErrRange}, {2, 3, 1, 1, api.ErrRange}, {1, 1, 0, 1, api.ErrRange}, {1, 1, 257, 1, api.ErrRange},
		{1, 1, 1, 0, api.ErrRange}, {1, 1, 1, 513, api.ErrRange}, {0, 0, 0, 0, api.ErrRange},
	} {
		s := api.Shoot{Table: make([]uint64, c.pages), Tlbs: slices.Repeat([]api.Tlb{{Size: 1}}, c.cpus), Pending: make([][]api.Inval, c.pending), Words: make([]int, c.frames)}
		if e := Check(s); e != c.want {
			t.Errorf("%v: Check = %d", c, e)
		}
		expectLooks(t, s)
	}
}

// faults are machines that differ from a valid one in few places, with the results of Check.
func faults() []fault {
	return []fault{
		{"nothing", func(s *api.Shoot) {}, api.OK},
		{"table: bit 7", func(s *api.Shoot) { s.Table[5] = 128 }, api.ErrForm},
		{"table: a slot", func(s *api.Shoot) { s.Table[5] = 2 }, api.ErrForm},
		{"table: a frame that moves", func(s *api.Shoot) { s.Table[5] = 3 }, api.ErrForm},
		{"table: a table", func(s *api.Shoot) { s.Table[5] = 4 }, api.ErrForm},
		{"table: none with a number", func(s *api.Shoot) { s.Table[5] = 256 }, api.ErrForm},
		{"table: huge", func(s *api.Shoot) { s.Table[0] |= 64 }, api.ErrForm},
		{"table: no such frame", func(s *api.Shoot) { s.Table[5] = pageWord(6, 0) }, api.ErrForm},
		{"table: the greatest frame", func(s *api.Shoot) { s.Table[5] = pageWord(1<<32-1, 0) }, api.ErrForm},
		{"cache: size 0", func(s *api.Shoot) { s.Tlbs[0] = api.Tlb{} }, api.ErrForm},
		{"cache: full", func(s *api.Shoot) { s.Tlbs[0].Size = 3 }, api.ErrForm},
		{"cache: a page twice", func(s *api.Shoot) { s.Tlbs[0].Entries[0] = s.Tlbs[0].Entries[1] }, api.ErrForm},
		{"cache: space 1", func(s *api.Shoot) { s.Tlbs[0].Entries[0].Space = 1 }, api.ErrForm},
		{"cache: no such page", func(s *api.Shoot) { s.Tlbs[0].Entries[0].Page = 6 }, api.ErrForm},
		{"cache: page -1", func(s *api.Shoot) { s.Tlbs[0].Entries[0].Page = -1 }, api.ErrForm},
		{"cache: no such frame", func(s *api.Shoot) { s.Tlbs[0].Entries[3].Entry = pageWord(6, 0) }, api.ErrForm},
		{"cache: huge", func(s *api.Shoot) { s.Tlbs[0].Entries[0].Entry |= 64 }, api.ErrForm},
		{"cache: not mapped", func(s *api.Shoot) { s.Tlbs[0].Entries[0].Entry = 0 }, api.ErrForm},
		{"pending: space 1", func(s *api.Shoot) { s.Pending[0][0].Space = 1 }, api.ErrForm},
		{"pending: page 6", func(s *api.Shoot) { s.Pending[0][0].Page = 6 }, api.ErrForm},
		{"pending: page -1", func(s *api.Shoot) { s.Pending[0][0].Page = -1 }, api.ErrForm},
		{"pending: own", func(s *api.Shoot) { s.Pending[1][0].Own = true }, api.ErrForm},
		{"pending: twice, and a page that is not cached", func(s *api.Shoot) { s.Pending[1] = append(s.Pending[1], s.Pending[1][0], api.Inval{Page: 5}) }, api.OK},
		{"two pages in a frame", func(s *api.Shoot) { s.Table[5] = pageWord(4, 0) }, api.ErrState},
		{"a page in a frame in limbo", func(s *api.Shoot) { s.Table[5] = pageWord(5, 0) }, api.ErrState},
		{"limbo: frame 6", func(s *api.Shoot) { s.Limbo = append(s.Limbo, api.Limbo{Frame: 6, Acks: 1}) }, api.ErrState},
		{"limbo: frame -1", func(s *api.Shoot) { s.Limbo = append(s.Limbo, api.Limbo{Frame: -1, Acks: 1}) }, api.ErrState},
		{"limbo: a frame twice", func(s *api.Shoot) { s.Limbo = append(s.Limbo, api.Limbo{Frame: 5, Acks: 3}) }, api.ErrState},
		{"limbo: no processor", func(s *api.Shoot) { s.Limbo[0].Acks = 0 }, api.ErrState},
		{"limbo: processor 3", func(s *api.Shoot) { s.Limbo[0].Acks = 9 }, api.ErrState},
		{"limbo: all bits", func(s *api.Shoot) { s.Limbo[0].Acks = -1 }, api.ErrState},
		{"limbo: the greatest mask", func(s *api.Shoot) { s.Limbo[0].Acks = math.MaxInt }, api.ErrState},
		{"limbo: the sign", func(s *api.Shoot) { s.Limbo[0].Acks = math.MinInt + 1 }, api.ErrState},
		{"limbo: a processor with nothing pending", func(s *api.Shoot) { s.Limbo[0].Acks = 5 }, api.ErrState},
		{"limbo: a processor with something else pending", func(s *api.Shoot) { s.Limbo[0].Acks = 3 }, api.OK},
		{"stale: not in limbo", func(s *api.Shoot) { s.Limbo = s.Limbo[1:] }, api.ErrState},
		{"stale: in limbo for another one", func(s *api.Shoot) { s.Limbo[0].Acks = 2 }, api.ErrState},
		{"stale: not owed", func(s *api.Shoot) { s.Pending[0] = s.Pending[0][:2] }, api.ErrState},
		{"stale: another page owed", func(s *api.Shoot) { s.Pending[0][1].Page = 4 }, api.ErrState},
		{"stale: another frame in limbo", func(s *api.Shoot) { s.Tlbs[0].Entries[2].Entry = pageWord(5, 7) }, api.OK},
		{"stale: a frame of another page", func(s *api.Shoot) { s.Tlbs[0].Entries[2].Entry = pageWord(1, 2) }, api.ErrState},
		{"protected: not owed", func(s *api.Shoot) { s.Pending[0] = s.Pending[0][1:] }, api.ErrState},
		{"protected: cached without write", func(s *api.Shoot) { s.Pending[0], s.Tlbs[0].Entries[1].Entry = s.Pending[0][1:], pageWord(2, 6) }, api.OK},
		{"dirty in the cache alone", func(s *api.Shoot) { s.Table[0] = pageWord(0, 3) }, api.ErrState},
		{"dirty in the cache alone, but owed", func(s *api.Shoot) { s.Table[2] = pageWord(2, 0); s.Tlbs[2].Entries = nil }, api.OK},
		{"accessed in the cache alone", func(s *api.Shoot) { s.Table[1] = pageWord(1, 1) }, api.OK},
		{"writable in the cache alone", func(s *api.Shoot) { s.Table[1] = pageWord(1, 2) }, api.ErrState},
		{"writable in the table alone", func(s *api.Shoot) { s.Tlbs[1].Entries[2].Entry = pageWord(1, 0) }, api.OK},
		{"another frame in the table", func(s *api.Shoot) { s.Table[1] = 0; s.Table[5] = pageWord(1, 3) }, api.ErrState},
		{"range, form and state", func(s *api.Shoot) { s.Words, s.Limbo[0].Acks = nil, 0 }, api.ErrRange},
		{"form and state", func(s *api.Shoot) { s.Table[5], s.Table[4], s.Pending[0][0].Own = pageWord(0, 0), pageWord(0, 0), true }, api.ErrForm},
	}
}

type fault struct {
	what   string
	change func(s *api.Shoot)
	want   int
}

// P9.1, with literal errors; and all functions for machines that are not valid.
func TestCheck(t *testing.T) {
	for _, f := range faults() {
		s := sample()
		f.change(&s)
		if e := Check(s); e != f.want {
			t.Errorf("%s: Check = %d, want %d", f.what, e, f.want)
		}
		expectLooks(t, s)
		for _, a := range actions(s) {
			expect(t, s, a)
		}
	}
}

// P9.1: two faults at once.
func TestCheckOrder(t *testing.T) {
	for _, f := range faults() {
		for _, g := range faults() {
			s := sample()
			f.change(&s)
			// The second change finds the lists that it needs, but for the first, as they were.
			if f.what == g.what || len(s.Words) == 0 || len(s.Limbo) < 2 || len(s.Pending[0]) < 3 || len(s.Tlbs[0].Entries) < 4 || len(s.Tlbs[2].Entries) < 1 {
				continue
			}
			g.change(&s)
			expectLooks(t, s)
		}
	}
}

// P9.1 and P9.3 to P9.7: all machines with a processor, two pages, two frames, and a cached entry at most, and all actions of those that are valid.
func TestSmallMachines(t *testing.T) {
	words := []uint64{0}
	for frame := range 2 {
		for _, flags := range []int{0, writable, dirty, writable + dirty} {
			words = append(words, pageWord(frame, flags))
		}
	}
	var caches []api.Tlb
	for page := range 2 {
		for _, w := range words[1:] {
			caches = append(caches, api.Tlb{Size: 1, Entries: []api.TlbEntry{{Page: page, Entry: w}}})
		}
	}
	caches = append(caches, api.Tlb{Size: 1})
	pending := [][]api.Inval{nil, {{Page: 0}}, {{Page: 1}}, {{Page: 1}, {Page: 0}}}
	limbos := [][]api.Limbo{nil, {{Frame: 0, Acks: 1}}, {{Frame: 1, Acks: 1}}, {{Frame: 1, Acks: 1}, {Frame: 0, Acks: 1}}, {{Frame: 0}}, {{Frame: 1, Acks: 2}}}
	valid := 0
	for _, first := range words {
		for _, second := range words {
			for _, b := range caches {
				for _, owed := range pending {
					for _, limbo := range limbos {
						s := api.Shoot{Table: []uint64{first, second}, Tlbs: []api.Tlb{b}, Pending: [][]api.Inval{owed}, Limbo: limbo, Words: []int{5, 6}}
						expectLooks(t, s)
						if checked(s) == api.OK {
							valid++
							expectConsequences(t, s)
						}
					}
				}
			}
		}
	}
	if valid < 1000 {
		t.Errorf("%d machines are valid", valid)
	}
}

// expectConsequences checks all actions of a machine, and what P9.8 says of it.
func expectConsequences(t *testing.T, s api.Shoot) {
	t.Helper()
	for _, a := range actions(s) {
		expect(t, s, a)
	}
	expectQuiet(t, s)
	expectReach(t, s)
}

// expectQuiet checks the second consequence: in a quiet machine nothing is in limbo, and each cached translation agrees with the table.
func expectQuiet(t *testing.T, s api.Shoot) {
	t.Helper()
	if !Quiet(s) {
		return
	}
	if len(s.Limbo) > 0 {
		t.Fatalf("%v is quiet", s)
	}
	for _, b := range s.Tlbs {
		for _, c := range b.Entries {
			if !inTable(s, c) {
				t.Fatalf("%v is quiet, and %v is cached", s, c)
			}
		}
	}
}

// expectReach checks the third consequence: an access uses the frame of its page, or a frame in limbo.
func expectReach(t *testing.T, s api.Shoot) {
	t.Helper()
	s = deepCopy(s)
	for frame := range s.Words {
		s.Words[frame] = 100 + frame
	}
	for cpu := range s.Tlbs {
		for page := range s.Table {
			for _, write := range []bool{false, true} {
				out, word, e := Access(s, cpu, page, write, 7)
				if e != api.OK {
					continue
				}
				frame := word - 100
				isInLimbo := slices.ContainsFunc(s.Limbo, func(l api.Limbo) bool { return l.Frame == frame })
				if pageOf(s, frame) != page && !isInLimbo {
					t.Fatalf("in %v processor %d reaches frame %d through page %d", s, cpu, frame, page)
				}
				if write {
					s.Words[frame] = 7
				}
				if !slices.Equal(out.Words, s.Words) {
					t.Fatalf("in %v an access to frame %d leaves %v", s, frame, out.Words)
				}
				s.Words[frame] = word
			}
		}
	}
}

// randomAction returns an action that is often possible.
func randomAction(random *rand.Rand, s api.Shoot, value int) action {
	cpu, page, frame := random.Intn(len(s.Tlbs)), random.Intn(len(s.Table)), random.Intn(len(s.Words))
	switch random.Intn(16) {
	case 0, 1:
		return unmapAction(page)
	case 2:
		return protectAction(page)
	case 3, 4:
		return ackAction(cpu)
	case 5, 6, 7, 8:
		return mapAction(page, frame, random.Intn(4) > 0)
	case 9:
		number := limits()[random.Intn(5)]
		return []action{mapAction(page, number, true), mapAction(number, frame, true), unmapAction(number), protectAction(number), accessAction(number, page, true, value), accessAction(cpu, number, false, value), ackAction(number)}[random.Intn(7)]
	}
	return accessAction(cpu, page, random.Intn(2) == 0, value)
}

// P9.3 to P9.8, with long sequences in which processors acknowledge late.
func TestSequences(t *testing.T) {
	random := rand.New(rand.NewSource(1))
	seen := map[int]int{}
	for range 60 {
		s, _ := New(1+random.Intn(4), 1+random.Intn(4), 1+random.Intn(7), 1+random.Intn(7))
		for i := range 400 {
			a := randomAction(random, s, i)
			got := expect(t, s, a)
			seen[got.e]++
			if len(got.s.Table) > 0 {
				s = got.s
			}
			expectLooks(t, s)
			expectQuiet(t, s)
			expectReach(t, s)
		}
	}
	for _, e := range []int{api.OK, api.ErrRange, api.ErrExist, api.ErrBusy, api.ErrNone, api.ErrFault, api.ErrAccess} {
		if seen[e] < 100 {
			t.Errorf("the result %d occurred %d times", e, seen[e])
		}
	}
}

// P9.8: between two writes to a mapped page that no processor owes, all processors read what the first one wrote.
func TestWritesAreRead(t *testing.T) {
	random := rand.New(rand.NewSource(2))
	compared := 0
	for range 60 {
		s, _ := New(1+random.Intn(4), 1+random.Intn(4), 1+random.Intn(7), 1+random.Intn(5))
		written := map[int]int{}
		for i := range 400 {
			cpu, page := random.Intn(len(s.Tlbs)), random.Intn(len(s.Table))
			var got outcome
			switch {
			case random.Intn(2) == 0:
				isShared := s.Table[page] != 0 && !isOwedByOne(s, page)
				got = accessAction(cpu, page, true, i).do(s)
				delete(written, page)
				if isShared && got.e == api.OK {
					written[page] = i
				}
			case random.Intn(4) == 0:
				got = unmapAction(page).do(s)
				delete(written, page)
			default:
				got = []action{mapAction(page, random.Intn(len(s.Words)), true), protectAction(page), ackAction(cpu), accessAction(cpu, page, false, 0)}[random.Intn(4)].do(s)
			}
			if len(got.s.Table) > 0 {
				s = got.s
			}
			for page, want := range written {
				for cpu := range s.Tlbs {
					if _, word, e := Access(s, cpu, page, false, 0); word != want || e != api.OK {
						t.Fatalf("in %v processor %d reads %d, %d from page %d, want %d", s, cpu, word, e, page, want)
					}
					compared++
				}
			}
		}
	}
	if compared < 10000 {
		t.Errorf("%d reads were compared", compared)
	}
}

func isOwedByOne(s api.Shoot, page int) bool {
	for cpu := range s.Tlbs {
		if isOwed(s, cpu, page) {
			return true
		}
	}
	return false
}

// P9.1 and P9.3 to P9.7: a sequence of valid machines with a change in one place.
func TestChangedMachines(t *testing.T) {
	random := rand.New(rand.NewSource(3))
	seen := map[int]int{}
	for range 30 {
		s, _ := New(1+random.Intn(4), 1+random.Intn(4), 2+random.Intn(6), 2+random.Intn(6))
		for i := range 300 {
			if got := randomAction(random, s, i).do(s); len(got.s.Table) > 0 {
				s = got.s
			}
			changed := change(random, s)
			expectLooks(t, changed)
			expect(t, changed, randomAction(random, s, i))
			seen[checked(changed)]++
		}
	}
	for _, e := range []int{api.OK, api.ErrForm, api.ErrState} {
		if seen[e] < 500 {
			t.Errorf("the result %d occurred %d times", e, seen[e])
		}
	}
}

// change returns a copy of a machine with a random change of one of its lists.
func change(random *rand.Rand, s api.Shoot) api.Shoot {
	out := deepCopy(s)
	cpu, page, frame := random.Intn(len(s.Tlbs)), random.Intn(len(s.Table)), random.Intn(len(s.Words)+1)
	w := pageWord(frame, random.Intn(8))
	switch random.Intn(7) {
	case 0:
		out.Table[page] = w
	case 1:
		out.Table[page] = 0
	case 2:
		out.Tlbs[cpu].Entries = append(out.Tlbs[cpu].Entries, api.TlbEntry{Page: page, Entry: w})
	case 3:
		out.Pending[cpu] = append(out.Pending[cpu], api.Inval{Page: page, Own: random.Intn(4) == 0})
	case 4:
		out.Pending[cpu] = out.Pending[cpu][:len(out.Pending[cpu])/2]
	case 5:
		out.Limbo = append(out.Limbo, api.Limbo{Frame: frame, Acks: random.Intn(1 << len(s.Tlbs))})
	case 6:
		out.Limbo = out.Limbo[:len(out.Limbo)/2]
	}
	return out
}

// P9.3 to P9.7: the largest machine, and the numbers around its limits.
func TestLargest(t *testing.T) {
	s, e := New(4, 16, 256, 512)
	if e != api.OK {
		t.Fatalf("New has the error %d", e)
	}
	for i := range 256 {
		s = expect(t, s, mapAction(511-i, i, true)).s
	}
	for _, number := range limits() {
		for _, a := range []action{
			mapAction(0, number, true), mapAction(number, 0, true), unmapAction(number), protectAction(number),
			accessAction(number, 500, true, 1), accessAction(0, number, true, 1), ackAction(number),
		} {
			if got := expect(t, s, a); got.e != api.ErrRange {
				t.Errorf("%s has the error %d", a.what, got.e)
			}
		}
	}
	for i := range 40 {
		for cpu := range 4 {
			s = expect(t, s, accessAction(cpu, 511-i, i%2 == 0, math.MinInt+i)).s
		}
	}
	for i := range 40 {
		s = expect(t, s, unmapAction(511-i)).s
	}
	if len(s.Limbo) != 16 || len(s.Pending[3]) != 16 || len(Free(s)) != 24 {
		t.Errorf("%d frames are in limbo, %d invalidations pending, %d frames free", len(s.Limbo), len(s.Pending[3]), len(Free(s)))
	}
	for cpu := range 4 {
		s = expect(t, s, ackAction(cpu)).s
	}
	if len(Free(s)) != 40 || !Quiet(s) {
		t.Errorf("%d frames are free, Quiet is %t", len(Free(s)), Quiet(s))
	}
}

// P9.7, with a very long list of invalidations.
func TestManyInvalidations(t *testing.T) {
	s := sample()
	s.Pending[0] = slices.Concat(s.Pending[0], slices.Repeat([]api.Inval{{Page: 5}}, 1<<20), []api.Inval{{Page: 0}})
	got, e := Ack(s, 0)
	if want := ackAction(0).read(s); e != api.OK || !same(got, want.s) || len(got.Tlbs[0].Entries) != 0 || len(got.Pending[0]) != 0 {
		t.Errorf("Ack = %v, %d", got, e)
	}
	s.Limbo = slices.Repeat(s.Limbo, 1<<20)
	if e := Check(s); e != api.ErrState {
		t.Errorf("Check = %d", e)
	}
}

// withMarks returns a copy whose lists have spare capacity with marks in it.
func withMarks(s api.Shoot) api.Shoot {
	out := deepCopy(s)
	out.Table = append(out.Table, 991)[:len(s.Table)]
	out.Limbo = append(out.Limbo, api.Limbo{Frame: 992})[:len(s.Limbo)]
	out.Words = append(out.Words, 993)[:len(s.Words)]
	for cpu := range s.Tlbs {
		out.Tlbs[cpu].Entries = append(out.Tlbs[cpu].Entries, api.TlbEntry{Page: 994})[:len(s.Tlbs[cpu].Entries)]
		out.Pending[cpu] = append(out.Pending[cpu], api.Inval{Page: 995})[:len(s.Pending[cpu])]
	}
	out.Tlbs = append(out.Tlbs, api.Tlb{Size: 996})[:len(s.Tlbs)]
	out.Pending = append(out.Pending, []api.Inval{{Page: 997}})[:len(s.Pending)]
	return out
}

// behind returns the element in the spare capacity of a list.
func behind[T any](l []T) T { return l[:len(l)+1][len(l)] }

// areMarked reports whether s is equal to want, with the marks in their places.
func areMarked(s, want api.Shoot) bool {
	if !same(s, want) || behind(s.Table) != 991 || behind(s.Limbo).Frame != 992 || behind(s.Words) != 993 || behind(s.Tlbs).Size != 996 || len(behind(s.Pending)) != 1 || behind(s.Pending)[0].Page != 997 {
		return false
	}
	for cpu := range s.Tlbs {
		if behind(s.Tlbs[cpu].Entries).Page != 994 || behind(s.Pending[cpu]).Page != 995 {
			return false
		}
	}
	return true
}

// overwrite changes everything in s, and behind its lists.
func overwrite(s api.Shoot) {
	for cpu := range s.Tlbs {
		for i := range s.Tlbs[cpu].Entries {
			s.Tlbs[cpu].Entries[i] = api.TlbEntry{Page: 7}
		}
		for i := range s.Pending[cpu] {
			s.Pending[cpu][i] = api.Inval{Page: 7}
		}
		_, _ = append(s.Tlbs[cpu].Entries, api.TlbEntry{}), append(s.Pending[cpu], api.Inval{})
		s.Tlbs[cpu], s.Pending[cpu] = api.Tlb{Size: 7}, nil
	}
	for i := range s.Table {
		s.Table[i] = 7
	}
	for i := range s.Limbo {
		s.Limbo[i] = api.Limbo{Frame: 7}
	}
	for i := range s.Words {
		s.Words[i] = 7
	}
	_, _, _, _, _ = append(s.Tlbs, api.Tlb{}), append(s.Pending, nil), append(s.Table, 7), append(s.Limbo, api.Limbo{}), append(s.Words, 7)
}

// Rule 'Values'.
func TestArgumentsStay(t *testing.T) {
	first, _ := New(2, 1, 3, 2)
	for _, s := range []api.Shoot{sample(), first} {
		for _, a := range actions(s) {
			argument := withMarks(s)
			got := a.do(argument)
			if !areMarked(argument, s) {
				t.Fatalf("%s: the argument has changed", a.what)
			}
			want := outcome{deepCopy(got.s), got.word, got.e}
			overwrite(argument)
			if !got.same(want) {
				t.Fatalf("%s: the result changes with the argument", a.what)
			}
			argument = withMarks(s)
			overwrite(a.do(argument).s)
			if !areMarked(argument, s) {
				t.Fatalf("%s: the argument changes with the result", a.what)
			}
		}
		argument := withMarks(s)
		Check(argument)
		Quiet(argument)
		Free(argument)
		if !areMarked(argument, s) {
			t.Fatalf("Check, Quiet or Free has changed its argument")
		}
	}
}

// Rule 'Values': what is appended to a list of a result is in no other list of it.
func TestListsAreApart(t *testing.T) {
	for _, a := range append(actions(sample()), action{what: "New", do: func(api.Shoot) outcome {
		s, e := New(3, 2, 2, 2)
		return outcome{s: s, e: e}
	}}) {
		got := a.do(sample()).s
		want := deepCopy(got)
		for cpu := range got.Tlbs {
			_, _ = append(got.Tlbs[cpu].Entries, api.TlbEntry{Page: 7}), append(got.Pending[cpu], api.Inval{Page: 7})
		}
		for cpu := range got.Tlbs {
			overwrite(api.Shoot{Tlbs: []api.Tlb{got.Tlbs[cpu]}, Pending: [][]api.Inval{got.Pending[cpu]}})
			got.Tlbs[cpu], got.Pending[cpu] = want.Tlbs[cpu], want.Pending[cpu]
			if !same(got, want) {
				t.Fatalf("%s: lists of the result share memory", a.what)
			}
		}
	}
}

// The example of the chapter.
func TestExample(t *testing.T) {
	s, _ := New(2, 2, 3, 4)
	step := func(a action, word, e int) {
		t.Helper()
		got := a.do(s)
		if got.word != word || got.e != e {
			t.Fatalf("%s of %v = %v, want %d, %d", a.what, s, got, word, e)
		}
		s = got.s
	}
	step(mapAction(1, 0, true), 0, api.OK)
	step(accessAction(0, 1, true, 5), 0, api.OK)
	step(accessAction(1, 1, true, 6), 5, api.OK)
	step(unmapAction(1), 0, api.OK)
	if !slices.Equal(s.Limbo, []api.Limbo{{Frame: 0, Acks: 3}}) {
		t.Errorf("in limbo: %v", s.Limbo)
	}
	step(accessAction(1, 1, true, 7), 6, api.OK)
	if free := Free(s); !slices.Equal(free, []int{1, 2}) || Quiet(s) {
		t.Errorf("Free = %v, Quiet = %t", free, Quiet(s))
	}
	step(ackAction(0), 0, api.OK)
	if !slices.Equal(s.Limbo, []api.Limbo{{Frame: 0, Acks: 2}}) {
		t.Errorf("in limbo: %v", s.Limbo)
	}
	step(ackAction(1), 0, api.OK)
	if free := Free(s); !slices.Equal(free, []int{0, 1, 2}) || !Quiet(s) {
		t.Errorf("Free = %v, Quiet = %t", free, Quiet(s))
	}
	step(accessAction(1, 1, false, 0), 0, api.ErrFault)
}
