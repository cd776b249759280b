package errseq

import (
	"math"
	"math/rand"
	"slices"
	"testing"

	"estovers/api"
)

// limits are the limits of int and of a sequence, and the numbers beside them.
func limits() []int {
	return []int{math.MinInt, math.MinInt + 1, -1 << 32, -1 << 30, -2, -1, 0, 1, 2, 3, 1<<30 - 2, 1<<30 - 1, 1 << 30, 1<<30 + 1, 1 << 31, 1 << 32, 1<<32 + 1, math.MaxInt - 1, math.MaxInt}
}

// sequences returns the sequences with small counts and with the counts of the limits, valid and not.
func sequences() []api.Errseq {
	var out []api.Errseq
	for _, count := range slices.Concat(limits(), []int{4, 5, 6, 7, 8, 9, 255, 256, 1000}) {
		out = append(out, api.Errseq{Count: count}, api.Errseq{Count: count, Seen: true})
	}
	return out
}

// P29.1 to P29.4: all small sequences and positions, and those at the limits.
func TestSequences(t *testing.T) {
	var seen [api.ErrIO + 1]int
	for _, e := range sequences() {
		expectSequence(t, e)
		positions := append(limits(), e.Count-1, e.Count, e.Count+1)
		for n := -1; n <= 12; n++ {
			positions = append(positions, n)
		}
		for _, since := range positions {
			_, _, code := expectCheck(t, e, since)
			seen[code]++
		}
	}
	for _, code := range []int{api.OK, api.ErrArg, api.ErrRange, api.ErrIO} {
		if seen[code] < 20 {
			t.Errorf("only %d results with %d", seen[code], code)
		}
	}
}

// P29.1: sequences that are valid and that are not, literally.
func TestValid(t *testing.T) {
	if e := New(); e != (api.Errseq{}) || !Valid(e) {
		t.Errorf("New = %v", e)
	}
	for _, x := range []struct {
		e    api.Errseq
		want bool
	}{
		{api.Errseq{Count: 0}, true}, {api.Errseq{Count: 1}, true}, {api.Errseq{Count: 1, Seen: true}, true},
		{api.Errseq{Count: 1 << 30}, true}, {api.Errseq{Count: 1 << 30, Seen: true}, true},
		{api.Errseq{Count: 0, Seen: true}, false}, {api.Errseq{Count: -1}, false}, {api.Errseq{Count: -1, Seen: true}, false},
		{api.Errseq{Count: 1<<30 + 1}, false}, {api.Errseq{Count: 1<<30 + 1, Seen: true}, false},
	} {
		if got := Valid(x.e); got != x.want {
			t.Errorf("Valid(%v) = %t", x.e, got)
		}
	}
}

// P29.2 to P29.4: which error comes first, and what is beside it.
func TestFirstError(t *testing.T) {
	for _, e := range []api.Errseq{{Seen: true}, {Count: -1}, {Count: 1<<30 + 1}, {Count: 1<<30 + 1, Seen: true}} {
		if got, code := Set(e); got != (api.Errseq{}) || code != api.ErrArg {
			t.Errorf("Set(%v) = %v, %d", e, got, code)
		}
		if got, code := Sample(e); got != 0 || code != api.ErrArg {
			t.Errorf("Sample(%v) = %d, %d", e, got, code)
		}
		for _, since := range []int{-1, 0, e.Count - 1, e.Count, e.Count + 1} {
			if got, position, code := Check(e, since); got != (api.Errseq{}) || position != 0 || code != api.ErrArg {
				t.Errorf("Check(%v, %d) = %v, %d, %d", e, since, got, position, code)
			}
		}
	}
	full := api.Errseq{Count: 1 << 30}
	if got, code := Set(full); got != full || code != api.OK {
		t.Errorf("Set(%v) = %v, %d", full, got, code)
	}
	full.Seen = true
	if got, code := Set(full); got != (api.Errseq{}) || code != api.ErrLimit {
		t.Errorf("Set(%v) = %v, %d", full, got, code)
	}
	for _, since := range []int{-1, 4} {
		if got, position, code := Check(api.Errseq{Count: 3}, since); got != (api.Errseq{}) || position != 0 || code != api.ErrRange {
			t.Errorf("Check(3, %d) = %v, %d, %d", since, got, position, code)
		}
	}
	for _, before := range []bool{false, true} {
		if got, position, code := Check(api.Errseq{Count: 3, Seen: before}, 1); got != (api.Errseq{Count: 3, Seen: true}) || position != 3 || code != api.ErrIO {
			t.Errorf("Check(3 %t, 1) = %v, %d, %d", before, got, position, code)
		}
		if got, position, code := Check(api.Errseq{Count: 3, Seen: before}, 3); got != (api.Errseq{Count: 3, Seen: before}) || position != 3 || code != api.OK {
			t.Errorf("Check(3 %t, 3) = %v, %d, %d", before, got, position, code)
		}
	}
}

// file is a file whose errors are kept by a sequence and by the words of P29.5: what each observer has to see.
type file struct {
	e         api.Errseq
	positions []int
	// owed tells for each observer whether the next time it asks it sees an error; unseen, whether nobody has seen the last one.
	owed   []bool
	unseen bool
}

// note notes an error, if another one can be counted.
func (f *file) note(t *testing.T) {
	t.Helper()
	e, code := expectSet(t, f.e)
	if code != api.OK {
		return
	}
	f.e, f.unseen = e, true
	for i := range f.owed {
		f.owed[i] = true
	}
}

func (f *file) open(t *testing.T) {
	t.Helper()
	position, _ := expectSample(t, f.e)
	f.positions = append(f.positions, position)
	f.owed = append(f.owed, f.unseen)
}

// ask asks for an observer, and returns the error that it sees.
func (f *file) ask(t *testing.T, observer int) int {
	t.Helper()
	e, position, code := expectCheck(t, f.e, f.positions[observer])
	if (code == api.ErrIO) != f.owed[observer] || code != api.ErrIO && code != api.OK {
		t.Fatalf("an observer of %v sees %d, and there is an error for it: %t", *f, code, f.owed[observer])
	}
	f.e, f.positions[observer], f.owed[observer] = e, position, false
	if code == api.ErrIO {
		f.unseen = false
	}
	return code
}

func (f *file) clone() *file {
	out := *f
	out.positions, out.owed = slices.Clone(f.positions), slices.Clone(f.owed)
	return &out
}

// starts returns files without observers: one without errors, and others with the counts near the greatest one.
func starts() []*file {
	var out []*file
	for _, e := range []api.Errseq{New(), {Count: 7}, {Count: most - 2, Seen: true}, {Count: most - 1}, {Count: most}, {Count: most, Seen: true}} {
		out = append(out, &file{e: e, unseen: e.Count > 0 && !e.Seen})
	}
	return out
}

// P29.5: all sequences of eight calls, with up to three observers.
func TestObservers(t *testing.T) {
	seen := map[int]int{}
	var from func(f *file, calls int)
	from = func(f *file, calls int) {
		if calls == 0 {
			return
		}
		next := f.clone()
		next.note(t)
		from(next, calls-1)
		if len(f.positions) < 3 {
			next = f.clone()
			next.open(t)
			from(next, calls-1)
		}
		for observer := range f.positions {
			next = f.clone()
			seen[next.ask(t, observer)]++
			from(next, calls-1)
		}
	}
	for _, f := range starts() {
		from(f, 8)
	}
	if seen[api.OK] < 10000 || seen[api.ErrIO] < 10000 {
		t.Errorf("too few cases: %v", seen)
	}
}

// P29.5: long random sequences of calls, with many observers.
func TestManyObservers(t *testing.T) {
	random := rand.New(rand.NewSource(1))
	seen := map[int]int{}
	for range 100 {
		for _, f := range starts() {
			for range 100 {
				switch choice := random.Intn(10); {
				case choice < 3:
					f.note(t)
				case choice < 4 || len(f.positions) == 0:
					f.open(t)
				default:
					seen[f.ask(t, random.Intn(len(f.positions)))]++
				}
			}
		}
	}
	if seen[api.OK] < 5000 || seen[api.ErrIO] < 5000 {
		t.Errorf("too few cases: %v", seen)
	}
}

// P29.5: an error that nobody has seen is seen by all who come later, and only then it is over.
func TestUnseen(t *testing.T) {
	f := starts()[0]
	f.open(t)
	f.note(t)
	f.note(t)
	f.open(t)
	for observer, want := range []int{api.ErrIO, api.ErrIO} {
		if code := f.ask(t, observer); code != want {
			t.Errorf("the observer %d sees %d", observer, code)
		}
	}
	f.open(t)
	for observer := range 3 {
		if code := f.ask(t, observer); code != api.OK {
			t.Errorf("the observer %d sees %d, again", observer, code)
		}
	}
}

// The examples of the chapter.
func TestExamples(t *testing.T) {
	e, code := Set(New())
	if e != (api.Errseq{Count: 1}) || code != api.OK {
		t.Errorf("Set = %v, %d", e, code)
	}
	e, code = Set(e)
	if e != (api.Errseq{Count: 1}) || code != api.OK {
		t.Errorf("the second Set = %v, %d", e, code)
	}
	if position, code := Sample(e); position != 0 || code != api.OK {
		t.Errorf("Sample = %d, %d", position, code)
	}
	e, position, code := Check(e, 0)
	if e != (api.Errseq{Count: 1, Seen: true}) || position != 1 || code != api.ErrIO {
		t.Errorf("Check = %v, %d, %d", e, position, code)
	}
	if same, position, code := Check(e, 1); same != e || position != 1 || code != api.OK {
		t.Errorf("the second Check = %v, %d, %d", same, position, code)
	}
	e, code = Set(e)
	if e != (api.Errseq{Count: 2}) || code != api.OK {
		t.Errorf("the third Set = %v, %d", e, code)
	}
	if _, _, code := Check(e, 3); code != api.ErrRange {
		t.Errorf("Check of a position that there is not = %d", code)
	}
	if position, code := Sample(api.Errseq{Count: 2, Seen: true}); position != 2 || code != api.OK {
		t.Errorf("the second Sample = %d, %d", position, code)
	}
	if Valid(api.Errseq{Seen: true}) {
		t.Error("{0, true} is valid")
	}
}
