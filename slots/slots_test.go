package slots

import (
	"math"
	"math/rand"
	"slices"
	"testing"

	"estovers/api"
)

// limits are the limits of int and of the machine, and the numbers beside them.
func limits() []int {
	return []int{math.MinInt, math.MinInt + 1, -1 << 32, -65, -64, -2, -1, 0, 1, 2, 3, 4, 5, 62, 63, 64, 65, mostCount - 1, mostCount, mostCount + 1, 1 << 32, 1<<32 + 1, math.MaxInt - 1, math.MaxInt}
}

// sample returns slots in all places, with the least and the greatest counts.
func sample() []api.Slot {
	return []api.Slot{
		{Place: api.SlotFrame, Count: 1}, {Place: api.SlotPool, Count: 2}, {}, {Place: api.SlotDevice, Count: mostCount},
		{}, {Place: api.SlotFrame}, {Place: api.SlotPool, Count: mostCount - 1}, {Place: api.SlotDevice},
	}
}

// full returns as many slots as there may be, none of them free.
func full() []api.Slot {
	l := make([]api.Slot, mostSlots)
	for i := range l {
		l[i] = api.Slot{Place: 1 + i%3, Count: i % 4}
	}
	return l
}

// randomList returns a valid list.
func randomList(random *rand.Rand) []api.Slot {
	l := make([]api.Slot, random.Intn(9))
	if random.Intn(8) == 0 {
		l = make([]api.Slot, mostSlots-random.Intn(4))
	}
	counts := []int{0, 1, 1, 2, 3, mostCount - 1, mostCount}
	free := random.Intn(4)
	for i := range l {
		if random.Intn(4) >= free {
			l[i] = api.Slot{Place: 1 + random.Intn(3), Count: counts[random.Intn(len(counts))]}
		}
	}
	return l
}

// few are slots that differ in all ways, also some that cannot be.
func few() []api.Slot {
	return []api.Slot{
		{}, {Place: 1}, {Place: 2}, {Place: 3}, {Place: 1, Count: 1}, {Place: 2, Count: 1}, {Place: 3, Count: 2}, {Place: 2, Count: mostCount},
		{Count: 1}, {Place: 4}, {Place: -1}, {Place: 1, Count: -1}, {Place: 3, Count: mostCount + 1}, {Count: -1},
	}
}

// P32.1 to P32.4: all functions, for all lists of up to three of some slots, valid and not.
func TestShortLists(t *testing.T) {
	seen := map[int]int{}
	var from func(l []api.Slot)
	from = func(l []api.Slot) {
		seen[expectList(t, l)]++
		for slot := -1; slot <= len(l); slot++ {
			expectSlot(t, l, slot)
		}
		if len(l) < 3 {
			for _, s := range few() {
				from(append(l, s))
			}
		}
	}
	from(make([]api.Slot, 0, 3))
	expectList(t, nil)
	expectSlot(t, nil, 0)
	for _, e := range []int{api.OK, api.ErrRange, api.ErrState} {
		if seen[e] < 100 {
			t.Errorf("too few cases: %v", seen)
		}
	}
}

// P32.1 to P32.4: numbers of all magnitudes.
func TestLimits(t *testing.T) {
	for _, n := range limits() {
		for _, m := range limits() {
			l := []api.Slot{{Place: api.SlotPool, Count: 1}, {Place: n, Count: m}, {}}
			expectList(t, l[1:2])
			expectList(t, l)
			for slot := range l {
				expectSlot(t, l, slot)
			}
			expectPlace(t, sample(), n, m)
		}
		expectSlot(t, sample(), n)
		expectSlot(t, full(), n)
		expectSlot(t, nil, n)
		for _, slot := range []int{0, 1, 2, 3, 7} {
			expectPlace(t, sample(), slot, n)
		}
	}
}

// P32.1: which error comes first.
func TestCheck(t *testing.T) {
	for _, x := range []struct {
		what string
		l    []api.Slot
		want int
	}{
		{"no slots", nil, api.OK},
		{"an empty list", []api.Slot{}, api.OK},
		{"a free slot", []api.Slot{{}}, api.OK},
		{"slots in all places", sample(), api.OK},
		{"as many slots as there may be", full(), api.OK},
		{"one more", append(full(), api.Slot{}), api.ErrLimit},
		{"too many, out of range", slices.Repeat([]api.Slot{{Place: 4}}, 65), api.ErrLimit},
		{"too many, free with a count", slices.Repeat([]api.Slot{{Count: 1}}, 65), api.ErrLimit},
		{"very many", make([]api.Slot, 1<<16), api.ErrLimit},
		{"place -1", []api.Slot{{Place: -1}}, api.ErrRange},
		{"place 4", []api.Slot{{Place: 4}}, api.ErrRange},
		{"count -1", []api.Slot{{Place: api.SlotPool, Count: -1}}, api.ErrRange},
		{"free with the count -1", []api.Slot{{Count: -1}}, api.ErrRange},
		{"the greatest count", []api.Slot{{Place: api.SlotDevice, Count: 1 << 20}}, api.OK},
		{"too great a count", []api.Slot{{Place: api.SlotDevice, Count: 1<<20 + 1}}, api.ErrRange},
		{"free with too great a count", []api.Slot{{Count: 1<<20 + 1}}, api.ErrRange},
		{"free with a count", []api.Slot{{Count: 1}}, api.ErrState},
		{"free with a count, and behind it one out of range", []api.Slot{{Count: 1}, {}, {Place: 4}}, api.ErrRange},
		{"free with a count, behind others", append(sample(), api.Slot{Count: 1}), api.ErrState},
	} {
		if got := Check(x.l); got != x.want {
			t.Errorf("%s: Check = %d", x.what, got)
		}
	}
}

// P32.1: the error of Check comes before all others, and nothing comes beside it.
func TestErrorOfCheck(t *testing.T) {
	for _, x := range []struct {
		l    []api.Slot
		want int
	}{
		{append(full(), api.Slot{}), api.ErrLimit}, {append(sample(), api.Slot{Place: 4}), api.ErrRange}, {append(sample(), api.Slot{Count: 1}), api.ErrState},
		{[]api.Slot{{Place: api.SlotFrame, Count: mostCount + 1}}, api.ErrRange}, {[]api.Slot{{Place: -1}}, api.ErrRange}, {[]api.Slot{{Count: 2}}, api.ErrState},
	} {
		if Used(x.l) != -1 {
			t.Errorf("Used(%v) = %d", x.l, Used(x.l))
		}
		for slot := -1; slot <= len(x.l); slot++ {
			expectSlot(t, x.l, slot)
			if IsFree(x.l, slot) {
				t.Errorf("IsFree(%v, %d)", x.l, slot)
			}
			for what, e := range errorsOf(x.l, slot) {
				if e != x.want {
					t.Errorf("%s(%v, %d) = %d", what, x.l, slot, e)
				}
			}
		}
		if l, slot, e := Alloc(x.l); len(l) != 0 || slot != 0 || e != x.want {
			t.Errorf("Alloc(%v) = %v, %d, %d", x.l, l, slot, e)
		}
	}
}

// errorsOf returns the errors of all functions that change a slot.
func errorsOf(l []api.Slot, slot int) map[string]int {
	_, dup := Dup(l, slot)
	_, _, drop := Drop(l, slot, false)
	_, release := Release(l, slot)
	_, place := Place(l, slot, -1)
	return map[string]int{"Dup": dup, "Drop": drop, "Release": release, "Place": place}
}

// P32.1: there is no such slot, or it is free.
func TestNoSlot(t *testing.T) {
	for _, slot := range []int{math.MinInt, -1, 2, 4, 8, 9, 64, math.MaxInt} {
		for what, e := range errorsOf(sample(), slot) {
			if e != api.ErrNone {
				t.Errorf("%s of the slot %d = %d", what, slot, e)
			}
		}
	}
	for what, e := range errorsOf(nil, 0) {
		if e != api.ErrNone {
			t.Errorf("%s without slots = %d", what, e)
		}
	}
}

// P32.2: New, for all numbers of slots, and others.
func TestNew(t *testing.T) {
	numbers := limits()
	for n := -3; n <= mostSlots+3; n++ {
		numbers = append(numbers, n)
	}
	for _, n := range numbers {
		got, e := New(n)
		want, wantError := created(n)
		if !slices.Equal(got, want.slots) || e != wantError {
			t.Fatalf("New(%d) = %v, %d, want %v, %d", n, got, e, want.slots, wantError)
		}
		if e == api.OK && expectList(t, got) != api.OK {
			t.Fatalf("New(%d) = %v, which are not valid", n, got)
		}
	}
}

// P32.2: Alloc, until no slot is free; then the slots that become free are allocated again, the lowest one first.
func TestAllocAll(t *testing.T) {
	l, _ := New(mostSlots)
	for want := range mostSlots {
		var slot, e int
		if l, slot, e = expectAlloc(t, l); slot != want || e != api.OK || Used(l) != want+1 {
			t.Fatalf("Alloc = %d, %d", slot, e)
		}
	}
	if _, slot, e := expectAlloc(t, l); slot != 0 || e != api.ErrFull {
		t.Fatalf("Alloc of no free slot = %d, %d", slot, e)
	}
	for _, slot := range []int{63, 0, 17, 62} {
		l, _ = expectRelease(t, l, slot)
	}
	for _, want := range []int{0, 17, 62, 63} {
		var slot int
		if l, slot, _ = expectAlloc(t, l); slot != want {
			t.Fatalf("Alloc = %d, want %d", slot, want)
		}
	}
	if l, slot, e := Alloc(nil); len(l) != 0 || slot != 0 || e != api.ErrFull {
		t.Errorf("Alloc without slots = %v, %d, %d", l, slot, e)
	}
}

// P32.3: the errors of a slot, literally.
func TestErrors(t *testing.T) {
	if l, e := Dup(sample(), 3); len(l) != 0 || e != api.ErrLimit {
		t.Errorf("Dup at the limit = %v, %d", l, e)
	}
	if l, e := Dup(sample(), 6); e != api.OK || l[6].Count != mostCount {
		t.Errorf("Dup below the limit = %v, %d", l, e)
	}
	for _, held := range []bool{false, true} {
		if l, freed, e := Drop(sample(), 5, held); len(l) != 0 || freed || e != api.ErrState {
			t.Errorf("Drop without a count = %v, %t, %d", l, freed, e)
		}
		if l, freed, e := Drop(sample(), 1, held); e != api.OK || freed || l[1] != (api.Slot{Place: api.SlotPool, Count: 1}) {
			t.Errorf("Drop of the count 2 = %v, %t, %d", l, freed, e)
		}
	}
	for _, slot := range []int{0, 1, 3} {
		if l, e := Release(sample(), slot); len(l) != 0 || e != api.ErrBusy {
			t.Errorf("Release(%d) = %v, %d", slot, l, e)
		}
	}
	for _, place := range []int{-1, 0, 4, math.MinInt, math.MaxInt} {
		if l, e := Place(sample(), 1, place); len(l) != 0 || e != api.ErrArg {
			t.Errorf("Place(1, %d) = %v, %d", place, l, e)
		}
		if _, e := Place(sample(), 2, place); e != api.ErrNone {
			t.Errorf("Place(2, %d) = %d", place, e)
		}
	}
	for _, place := range []int{api.SlotFrame, api.SlotPool, api.SlotDevice} {
		if l, e := Place(sample(), 3, place); e != api.OK || l[3] != (api.Slot{Place: place, Count: mostCount}) {
			t.Errorf("Place(3, %d) = %v, %d", place, l, e)
		}
	}
}

// P32.4: Used and IsFree, literally.
func TestUsedAndFree(t *testing.T) {
	if n := Used(sample()); n != 6 {
		t.Errorf("Used = %d", n)
	}
	if n := Used(full()); n != mostSlots {
		t.Errorf("Used of full slots = %d", n)
	}
	if n := Used(nil); n != 0 {
		t.Errorf("Used of no slots = %d", n)
	}
	for slot := -2; slot <= 9; slot++ {
		if got := IsFree(sample(), slot); got != (slot == 2 || slot == 4) {
			t.Errorf("IsFree(%d) = %t", slot, got)
		}
	}
}

// P32.1 to P32.4: random slots.
func TestRandomLists(t *testing.T) {
	random := rand.New(rand.NewSource(1))
	for range 2000 {
		l := randomList(random)
		if expectList(t, l) != api.OK {
			t.Fatalf("%v are not valid", l)
		}
		for slot := -1; slot <= len(l); slot++ {
			expectSlot(t, l, slot)
		}
	}
}

// swap follows a script by counting references; live has a number for each slot that is in use.
type swap struct {
	slots []api.Slot
	live  map[int]int
	place map[int]int
}

func (s *swap) alloc(t *testing.T) {
	t.Helper()
	l, slot, e := expectAlloc(t, s.slots)
	if e != api.OK {
		if len(s.live) != len(s.slots) {
			t.Fatalf("Alloc = %d, but only %v are in use", e, s.live)
		}
		return
	}
	if _, used := s.live[slot]; used {
		t.Fatalf("Alloc = %d, which is in use", slot)
	}
	s.slots, s.live[slot], s.place[slot] = l, 0, api.SlotFrame
}

func (s *swap) dup(t *testing.T, slot int) {
	t.Helper()
	l, e := expectDup(t, s.slots, slot)
	if _, used := s.live[slot]; used != (e == api.OK) {
		t.Fatalf("Dup of the slot %d of %v = %d", slot, s.live, e)
	}
	if e == api.OK {
		s.slots = l
		s.live[slot]++
	}
}

func (s *swap) drop(t *testing.T, slot int, held bool) {
	t.Helper()
	l, freed, e := expectDrop(t, s.slots, slot, held)
	if (s.live[slot] > 0) != (e == api.OK) {
		t.Fatalf("Drop of the slot %d of %v = %d", slot, s.live, e)
	}
	if e != api.OK {
		return
	}
	s.slots = l
	s.live[slot]--
	if freed {
		s.forget(t, slot)
	}
}

func (s *swap) release(t *testing.T, slot int) {
	t.Helper()
	if l, e := expectRelease(t, s.slots, slot); e == api.OK {
		s.slots = l
		s.forget(t, slot)
	}
}

// forget is what happens to a slot that has become free.
func (s *swap) forget(t *testing.T, slot int) {
	t.Helper()
	if count, used := s.live[slot]; !used || count != 0 {
		t.Fatalf("the slot %d of %v has become free", slot, s.live)
	}
	delete(s.live, slot)
	delete(s.place, slot)
}

func (s *swap) move(t *testing.T, slot, place int) {
	t.Helper()
	if l, e := expectPlace(t, s.slots, slot, place); e == api.OK {
		s.slots, s.place[slot] = l, place
	}
}

// expect compares the slots with what has been counted.
func (s *swap) expect(t *testing.T) {
	t.Helper()
	for slot, got := range s.slots {
		count, used := s.live[slot]
		if got != (api.Slot{Place: s.place[slot], Count: count}) || IsFree(s.slots, slot) == used {
			t.Fatalf("the slot %d is %v, but it has the count %d and the place %d", slot, got, count, s.place[slot])
		}
	}
	if Used(s.slots) != len(s.live) {
		t.Fatalf("Used = %d of %v", Used(s.slots), s.live)
	}
}

// P32.5: in random scripts the counts are the numbers of references, and slots without references are in use only if they were never referenced, or held.
func TestScripts(t *testing.T) {
	random := rand.New(rand.NewSource(2))
	idle := 0
	for range 300 {
		l, _ := New(1 + random.Intn(6))
		s := swap{slots: l, live: map[int]int{}, place: map[int]int{}}
		kept := map[int]bool{} // slots without references that are in use
		for range 80 {
			slot := random.Intn(len(l)+2) - 1
			held := random.Intn(3) == 0
			switch random.Intn(10) {
			case 0, 1:
				s.alloc(t)
			case 2, 3, 4:
				s.dup(t, slot)
			case 5, 6, 7:
				last := s.live[slot] == 1
				s.drop(t, slot, held)
				if _, used := s.live[slot]; last && used != held {
					t.Fatalf("the slot %d is in use after its last reference: %t, held: %t", slot, used, held)
				}
			case 8:
				s.release(t, slot)
			default:
				s.move(t, slot, random.Intn(6)-1)
			}
			s.expect(t)
			for slot, count := range s.live {
				if count == 0 {
					kept[slot] = true
				}
			}
		}
		idle += len(kept)
	}
	if idle < 300 {
		t.Errorf("only %d slots in use without references", idle)
	}
}

// Rule 'Values': no argument is changed, nor what is behind it, and no result shares its memory.
func TestValues(t *testing.T) {
	random := rand.New(rand.NewSource(3))
	behind := api.Slot{Place: 77, Count: 78}
	spoil := func(l []api.Slot) {
		l = l[:cap(l)]
		for i := range l {
			l[i] = behind
		}
	}
	for range 500 {
		l := append(randomList(random), behind, behind)
		l = l[:len(l)-2]
		before := slices.Clone(l[:len(l)+2])
		for slot := range l {
			out, _, _ := Alloc(l)
			spoil(out)
			out, _ = Dup(l, slot)
			spoil(out)
			out, _, _ = Drop(l, slot, slot%2 == 0)
			spoil(out)
			out, _ = Release(l, slot)
			spoil(out)
			out, _ = Place(l, slot, l[slot].Place)
			spoil(out)
			if !slices.Equal(l[:len(l)+2], before) {
				t.Fatalf("%v have become %v", before, l[:len(l)+2])
			}
		}
	}
	first, _ := New(3)
	spoil(first)
	if second, _ := New(3); Check(second) != api.OK {
		t.Errorf("New(3) = %v", second)
	}
}

// The examples of the chapter.
func TestExamples(t *testing.T) {
	l, _ := New(3)
	l, first, e := Alloc(l)
	if first != 0 || e != api.OK {
		t.Errorf("Alloc = %d, %d", first, e)
	}
	if _, second, e := Alloc(l); second != 1 || e != api.OK {
		t.Errorf("the second Alloc = %d, %d", second, e)
	}
	l, _ = Dup(l, 0)
	l, _ = Dup(l, 0)
	if l[0].Count != 2 {
		t.Errorf("after Dup twice: %v", l)
	}
	l, freed, e := Drop(l, 0, false)
	if freed || e != api.OK {
		t.Errorf("Drop = %t, %d", freed, e)
	}
	held, freed, e := Drop(l, 0, true)
	if freed || e != api.OK || held[0] != (api.Slot{Place: api.SlotFrame}) {
		t.Errorf("Drop of a slot that is held = %v, %t, %d", held, freed, e)
	}
	if held, e = Release(held, 0); e != api.OK || !IsFree(held, 0) {
		t.Errorf("Release = %v, %d", held, e)
	}
	l, freed, e = Drop(l, 0, false)
	if !freed || e != api.OK || !IsFree(l, 0) {
		t.Errorf("the second Drop = %v, %t, %d", l, freed, e)
	}
	if _, again, e := Alloc(l); again != 0 || e != api.OK {
		t.Errorf("Alloc of the slot that is free again = %d, %d", again, e)
	}
}
