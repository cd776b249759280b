package slots

import (
	"slices"
	"testing"

	"estovers/api"
)

// The limits of slots.
const (
	mostSlots = 64
	mostCount = 1 << 20
)

// list is what a function returns beside the error: the slots, with a number or whether a slot became free.
type list struct {
	slots  []api.Slot
	number int
	freed  bool
}

// checked is the promise of Check.
func checked(l []api.Slot) int {
	if len(l) > mostSlots {
		return api.ErrLimit
	}
	for _, s := range l {
		if s.Place < 0 || s.Place > 3 || s.Count < 0 || s.Count > mostCount {
			return api.ErrRange
		}
	}
	for _, s := range l {
		if s.Place == 0 && s.Count != 0 {
			return api.ErrState
		}
	}
	return api.OK
}

// created is the promise of New.
func created(n int) (list, int) {
	if n < 0 || n > mostSlots {
		return list{}, api.ErrRange
	}
	return list{slots: make([]api.Slot, n)}, api.OK
}

// found returns the error that Dup, Drop, Release and Place return first.
func found(l []api.Slot, slot int) int {
	if e := checked(l); e != api.OK {
		return e
	}
	if slot < 0 || slot >= len(l) || l[slot].Place == 0 {
		return api.ErrNone
	}
	return api.OK
}

// changed returns the slots with one that has been changed.
func changed(l []api.Slot, slot, place, count int) []api.Slot {
	var out []api.Slot
	for i, s := range l {
		if i == slot {
			s = api.Slot{Place: place, Count: count}
		}
		out = append(out, s)
	}
	return out
}

// allocated is the promise of Alloc.
func allocated(l []api.Slot) (list, int) {
	if e := checked(l); e != api.OK {
		return list{}, e
	}
	for i, s := range l {
		if s.Place == 0 {
			return list{slots: changed(l, i, 1, 0), number: i}, api.OK
		}
	}
	return list{}, api.ErrFull
}

// duplicated is the promise of Dup.
func duplicated(l []api.Slot, slot int) (list, int) {
	if e := found(l, slot); e != api.OK {
		return list{}, e
	}
	if l[slot].Count == mostCount {
		return list{}, api.ErrLimit
	}
	return list{slots: changed(l, slot, l[slot].Place, l[slot].Count+1)}, api.OK
}

// dropped is the promise of Drop.
func dropped(l []api.Slot, slot int, held bool) (list, int) {
	if e := found(l, slot); e != api.OK {
		return list{}, e
	}
	count := l[slot].Count - 1
	if count < 0 {
		return list{}, api.ErrState
	}
	if count == 0 && !held {
		return list{slots: changed(l, slot, 0, 0), freed: true}, api.OK
	}
	return list{slots: changed(l, slot, l[slot].Place, count)}, api.OK
}

// released is the promise of Release.
func released(l []api.Slot, slot int) (list, int) {
	if e := found(l, slot); e != api.OK {
		return list{}, e
	}
	if l[slot].Count > 0 {
		return list{}, api.ErrBusy
	}
	return list{slots: changed(l, slot, 0, 0)}, api.OK
}

// placed is the promise of Place.
func placed(l []api.Slot, slot, place int) (list, int) {
	if e := found(l, slot); e != api.OK {
		return list{}, e
	}
	if place < 1 || place > 3 {
		return list{}, api.ErrArg
	}
	return list{slots: changed(l, slot, place, l[slot].Count)}, api.OK
}

// used is the promise of Used.
func used(l []api.Slot) int {
	if checked(l) != api.OK {
		return -1
	}
	n := len(l)
	for _, s := range l {
		if s.Place == 0 {
			n--
		}
	}
	return n
}

// expectResult compares a result with the promised one. Valid slots have to stay valid, and as many.
func expectResult(t *testing.T, what string, l []api.Slot, got list, e int, want list, wantError int) ([]api.Slot, int) {
	t.Helper()
	if !slices.Equal(got.slots, want.slots) || got.number != want.number || got.freed != want.freed || e != wantError {
		t.Fatalf("%s of %v = %v, %d, want %v, %d", what, l, got, e, want, wantError)
	}
	if e == api.OK && (len(got.slots) != len(l) || Check(got.slots) != api.OK) {
		t.Fatalf("%s of %v = %v, which are not valid", what, l, got)
	}
	return got.slots, e
}

func expectAlloc(t *testing.T, l []api.Slot) ([]api.Slot, int, int) {
	t.Helper()
	var got list
	var e int
	got.slots, got.number, e = Alloc(l)
	want, wantError := allocated(l)
	out, e := expectResult(t, "Alloc", l, got, e, want, wantError)
	return out, got.number, e
}

func expectDup(t *testing.T, l []api.Slot, slot int) ([]api.Slot, int) {
	t.Helper()
	got, e := Dup(l, slot)
	want, wantError := duplicated(l, slot)
	return expectResult(t, "Dup", l, list{slots: got}, e, want, wantError)
}

func expectDrop(t *testing.T, l []api.Slot, slot int, held bool) ([]api.Slot, bool, int) {
	t.Helper()
	var got list
	var e int
	got.slots, got.freed, e = Drop(l, slot, held)
	want, wantError := dropped(l, slot, held)
	out, e := expectResult(t, "Drop", l, got, e, want, wantError)
	return out, got.freed, e
}

func expectRelease(t *testing.T, l []api.Slot, slot int) ([]api.Slot, int) {
	t.Helper()
	got, e := Release(l, slot)
	want, wantError := released(l, slot)
	return expectResult(t, "Release", l, list{slots: got}, e, want, wantError)
}

func expectPlace(t *testing.T, l []api.Slot, slot, place int) ([]api.Slot, int) {
	t.Helper()
	got, e := Place(l, slot, place)
	want, wantError := placed(l, slot, place)
	return expectResult(t, "Place", l, list{slots: got}, e, want, wantError)
}

// expectList compares Check, Used and Alloc with their promises.
func expectList(t *testing.T, l []api.Slot) int {
	t.Helper()
	e := Check(l)
	if want := checked(l); e != want {
		t.Fatalf("Check(%v) = %d, want %d", l, e, want)
	}
	if got, want := Used(l), used(l); got != want {
		t.Fatalf("Used(%v) = %d, want %d", l, got, want)
	}
	expectAlloc(t, l)
	return e
}

// expectSlot compares all functions of a slot with their promises.
func expectSlot(t *testing.T, l []api.Slot, slot int) {
	t.Helper()
	isFree := checked(l) == api.OK && slot >= 0 && slot < len(l) && l[slot].Place == 0
	if got := IsFree(l, slot); got != isFree {
		t.Fatalf("IsFree(%v, %d) = %t", l, slot, got)
	}
	expectDup(t, l, slot)
	expectDrop(t, l, slot, false)
	expectDrop(t, l, slot, true)
	expectRelease(t, l, slot)
	for place := -2; place <= 5; place++ {
		expectPlace(t, l, slot, place)
	}
}
