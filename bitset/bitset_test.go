package bitset

import (
	"math"
	"slices"
	"testing"

	"estovers/api"
)

// sizes are the sizes at and beside the borders of words, and the limits.
var sizes = []int{0, 1, 3, 63, 64, 65, 70, 127, 128, 129, 192, 4095, 4096}

// invalid is a set that is not valid, with the error of Check.
type invalid struct {
	b api.Bits
	e int
}

func invalidSets() []invalid {
	return []invalid{
		{api.Bits{Size: -1}, api.ErrRange},
		{api.Bits{Size: math.MinInt}, api.ErrRange},
		{api.Bits{Size: 4097, Words: make([]uint64, 65)}, api.ErrRange},
		{api.Bits{Size: math.MaxInt, Words: make([]uint64, 64)}, api.ErrRange},
		{api.Bits{Size: -1, Words: []uint64{1}}, api.ErrRange},
		{api.Bits{Size: 0, Words: []uint64{0}}, api.ErrForm},
		{api.Bits{Size: 1}, api.ErrForm},
		{api.Bits{Size: 64, Words: []uint64{0, 0}}, api.ErrForm},
		{api.Bits{Size: 65, Words: []uint64{0}}, api.ErrForm},
		{api.Bits{Size: 65, Words: []uint64{0, 0, 0}}, api.ErrForm},
		{api.Bits{Size: 3, Words: []uint64{8}}, api.ErrForm},
		{api.Bits{Size: 3, Words: []uint64{1 << 63}}, api.ErrForm},
		{api.Bits{Size: 65, Words: []uint64{0, 2}}, api.ErrForm},
		{api.Bits{Size: 70, Words: []uint64{0, 1 << 6}}, api.ErrForm},
	}
}

// sequence returns numbers from a fixed seed.
func sequence(seed uint64) func(below int) int {
	return func(below int) int {
		seed = seed*6364136223846793005 + 1442695040888963407
		return int(seed >> 33 % uint64(below))
	}
}

// encode returns the set with these bits.
func encode(bools []bool) api.Bits {
	b := api.Bits{Size: len(bools), Words: make([]uint64, (len(bools)+63)/64)}
	for i, on := range bools {
		if on {
			b.Words[i/64] |= 1 << (i % 64)
		}
	}
	return b
}

// decode returns the bits of a set, from its words alone.
func decode(b api.Bits) []bool {
	var bools []bool
	for i := range b.Size {
		bools = append(bools, b.Words[i/64]&(1<<(i%64)) != 0)
	}
	return bools
}

// kinds is the number of samples of each size.
const kinds = 5

// samples returns sets of many sizes: empty, full, of runs, and mixed.
func samples() [][]bool {
	next := sequence(1)
	var out [][]bool
	for _, size := range sizes {
		full := make([]bool, size)
		for i := range full {
			full[i] = true
		}
		out = append(out, make([]bool, size), full)
		for _, change := range []int{2, 9, 40} {
			mixed := make([]bool, size)
			on := false
			for i := range mixed {
				if next(change) == 0 {
					on = !on
				}
				mixed[i] = on
			}
			out = append(out, mixed)
		}
	}
	return out
}

// partner returns another sample of the size of sample i.
func partner(all [][]bool, i int) []bool { return all[i/kinds*kinds+(i+2)%kinds] }

// places returns indices at the borders of words and of a set, and some beside it.
func places(size int) []int {
	out := []int{math.MinInt, -65, -64, -1, 0, 1, 62, 63, 64, 65, 127, 128, size / 2, size - 1, size, size + 1, size + 64, math.MaxInt}
	slices.Sort(out)
	return slices.Compact(out)
}

func same(a, b api.Bits) bool { return a.Size == b.Size && slices.Equal(a.Words, b.Words) }

func isZero(b api.Bits) bool { return b.Size == 0 && len(b.Words) == 0 }

// expect fails unless a call returned the set of bools, without an error.
func expect(t *testing.T, what string, got api.Bits, e int, bools []bool) {
	t.Helper()
	if e != api.OK || Check(got) != api.OK || !same(got, encode(bools)) {
		t.Errorf("%s: got %v, %d, want %v", what, got, e, encode(bools))
	}
}

// refuse fails unless a call returned this error and the zero value.
func refuse(t *testing.T, what string, got api.Bits, e, want int) {
	t.Helper()
	if e != want || !isZero(got) {
		t.Errorf("%s: got %v, %d, want the error %d", what, got, e, want)
	}
}

// P1.1
func TestCheck(t *testing.T) {
	for _, bools := range samples() {
		if e := Check(encode(bools)); e != api.OK {
			t.Errorf("Check of %d bits: %d", len(bools), e)
		}
	}
	if e := Check(api.Bits{}); e != api.OK {
		t.Errorf("Check of nothing: %d", e)
	}
	if e := Check(api.Bits{Size: 64, Words: []uint64{math.MaxUint64}}); e != api.OK {
		t.Errorf("Check of a full word: %d", e)
	}
	for _, c := range invalidSets() {
		if e := Check(c.b); e != c.e {
			t.Errorf("Check(%d, %d words) = %d, want %d", c.b.Size, len(c.b.Words), e, c.e)
		}
	}
}

// P1.2
func TestNew(t *testing.T) {
	for _, size := range sizes {
		b, e := New(size)
		expect(t, "New", b, e, make([]bool, size))
	}
	for _, size := range []int{math.MinInt, -1, 4097, math.MaxInt} {
		b, e := New(size)
		refuse(t, "New", b, e, api.ErrRange)
	}
}

// P1.3
func TestGet(t *testing.T) {
	for _, bools := range samples() {
		b := encode(bools)
		for i, on := range bools {
			if Get(b, i) != on {
				t.Fatalf("Get of bit %d of %d", i, len(bools))
			}
		}
		for _, i := range []int{math.MinInt, -64, -1, b.Size, b.Size + 1, b.Size + 64, math.MaxInt} {
			if Get(b, i) {
				t.Errorf("Get of bit %d of %d", i, b.Size)
			}
		}
	}
	for _, c := range invalidSets() {
		for i := range 66 {
			if Get(c.b, i) {
				t.Errorf("Get of bit %d of an invalid set", i)
			}
		}
	}
	if Get(api.Bits{Size: 3, Words: []uint64{15}}, 1) {
		t.Error("Get of a bit of an invalid set")
	}
}

// P1.3
func TestSet(t *testing.T) {
	for _, bools := range samples() {
		for _, i := range places(len(bools)) {
			for _, on := range []bool{false, true} {
				b, e := Set(encode(bools), i, on)
				if i < 0 || i >= len(bools) {
					refuse(t, "Set", b, e, api.ErrRange)
					continue
				}
				want := slices.Clone(bools)
				want[i] = on
				expect(t, "Set", b, e, want)
			}
		}
	}
	for _, c := range invalidSets() {
		for _, i := range []int{-1, 0, 5000} {
			b, e := Set(c.b, i, true)
			refuse(t, "Set of an invalid set", b, e, c.e)
		}
	}
}

// P1.4
func TestFill(t *testing.T) {
	for _, bools := range samples() {
		for _, from := range places(len(bools)) {
			for _, to := range places(len(bools)) {
				checkFill(t, bools, from, to)
			}
		}
	}
	for _, c := range invalidSets() {
		for _, to := range []int{-1, 0, 1, 5000} {
			b, e := Fill(c.b, 0, to, false)
			refuse(t, "Fill of an invalid set", b, e, c.e)
		}
	}
}

func checkFill(t *testing.T, bools []bool, from, to int) {
	t.Helper()
	for _, on := range []bool{false, true} {
		b, e := Fill(encode(bools), from, to, on)
		if from < 0 || from > to || to > len(bools) {
			refuse(t, "Fill", b, e, api.ErrRange)
			continue
		}
		want := slices.Clone(bools)
		for i := from; i < to; i++ {
			want[i] = on
		}
		expect(t, "Fill", b, e, want)
	}
}

// P1.5
func TestFind(t *testing.T) {
	for _, bools := range samples() {
		for _, from := range places(len(bools)) {
			for _, on := range []bool{false, true} {
				want := -1
				for i := max(from, 0); i < len(bools) && from >= 0 && want < 0; i++ {
					if bools[i] == on {
						want = i
					}
				}
				if i := Find(encode(bools), from, on); i != want {
					t.Errorf("Find from %d of %d bits for %v: got %d, want %d", from, len(bools), on, i, want)
				}
			}
		}
	}
	for _, c := range invalidSets() {
		if Find(c.b, 0, true) != -1 || Find(c.b, 0, false) != -1 {
			t.Errorf("Find in an invalid set of size %d", c.b.Size)
		}
	}
}

// findRun is FindRun of a valid set, as the promise says it.
func findRun(bools []bool, count, align int, on bool) int {
	if count < 1 || align < 1 || count > len(bools) {
		return -1
	}
	for p := 0; p <= len(bools)-count; p++ {
		if p%align == 0 && !slices.Contains(bools[p:p+count], !on) {
			return p
		}
	}
	return -1
}

// P1.6
func TestFindRun(t *testing.T) {
	aligns := []int{math.MinInt, -1, 0, 1, 2, 3, 7, 16, 63, 64, 65, 4096, 4097, math.MaxInt - 1, math.MaxInt}
	for _, bools := range samples() {
		counts := append(places(len(bools)), 2, 3, 5, 16)
		for _, count := range counts {
			for _, align := range aligns {
				for _, on := range []bool{false, true} {
					want := findRun(bools, count, align, on)
					if p := FindRun(encode(bools), count, align, on); p != want {
						t.Errorf("FindRun of %d bits, %d, %d, %v: got %d, want %d", len(bools), count, align, on, p, want)
					}
				}
			}
		}
	}
	for _, c := range invalidSets() {
		if FindRun(c.b, 1, 1, true) != -1 || FindRun(c.b, 1, 1, false) != -1 {
			t.Errorf("FindRun in an invalid set of size %d", c.b.Size)
		}
	}
}

// P1.6, with all sets of a few bits.
func TestFindRunOfSmallSets(t *testing.T) {
	const size = 9
	for word := range uint64(1 << size) {
		b := api.Bits{Size: size, Words: []uint64{word}}
		bools := decode(b)
		for count := range size + 2 {
			for align := range size + 2 {
				for _, on := range []bool{false, true} {
					if p, want := FindRun(b, count, align, on), findRun(bools, count, align, on); p != want {
						t.Fatalf("FindRun(%b, %d, %d, %v): got %d, want %d", word, count, align, on, p, want)
					}
				}
			}
		}
	}
}

// P1.7
func TestCount(t *testing.T) {
	for _, bools := range samples() {
		for _, from := range places(len(bools)) {
			for _, to := range places(len(bools)) {
				want := 0
				if 0 <= from && from <= to && to <= len(bools) {
					for _, on := range bools[from:to] {
						if on {
							want++
						}
					}
				}
				if n := Count(encode(bools), from, to); n != want {
					t.Errorf("Count of %d bits from %d to %d: got %d, want %d", len(bools), from, to, n, want)
				}
			}
		}
	}
	if n := Count(api.Bits{Size: 3, Words: []uint64{15}}, 0, 3); n != 0 {
		t.Errorf("Count of an invalid set: %d", n)
	}
	if n := Count(api.Bits{Size: 64, Words: []uint64{1, 1}}, 0, 64); n != 0 {
		t.Errorf("Count of a set with too many words: %d", n)
	}
}

// P1.8
func TestAndOr(t *testing.T) {
	all := samples()
	for i, x := range all {
		y := partner(all, i)
		both, either := make([]bool, len(x)), make([]bool, len(x))
		for n := range x {
			both[n], either[n] = x[n] && y[n], x[n] || y[n]
		}
		b, e := And(encode(x), encode(y))
		expect(t, "And", b, e, both)
		b, e = Or(encode(x), encode(y))
		expect(t, "Or", b, e, either)
	}
}

// P1.8
func TestAndOrErrors(t *testing.T) {
	for _, operation := range []func(a, b api.Bits) (api.Bits, int){And, Or} {
		good := api.Bits{Size: 3, Words: []uint64{5}}
		for _, size := range []int{0, 2, 4, 64, 65} {
			other, _ := New(size)
			b, e := operation(good, other)
			refuse(t, "sizes that differ", b, e, api.ErrArg)
			b, e = operation(other, good)
			refuse(t, "sizes that differ", b, e, api.ErrArg)
		}
		for _, c := range invalidSets() {
			b, e := operation(c.b, good)
			refuse(t, "an invalid first set", b, e, c.e)
			b, e = operation(good, c.b)
			refuse(t, "an invalid second set", b, e, c.e)
			for _, d := range invalidSets() {
				b, e = operation(c.b, d.b)
				refuse(t, "two invalid sets", b, e, c.e)
			}
		}
	}
}

// P1.8
func TestNot(t *testing.T) {
	for _, bools := range samples() {
		want := make([]bool, len(bools))
		for i := range bools {
			want[i] = !bools[i]
		}
		b, e := Not(encode(bools))
		expect(t, "Not", b, e, want)
	}
	for _, c := range invalidSets() {
		b, e := Not(c.b)
		refuse(t, "Not of an invalid set", b, e, c.e)
	}
}

// P1.9
func TestLaws(t *testing.T) {
	all := samples()
	for i, x := range all {
		a, b := encode(x), encode(partner(all, i))
		notA, _ := Not(a)
		notB, _ := Not(b)
		both, _ := And(a, b)
		left, _ := Not(both)
		right, _ := Or(notA, notB)
		if !same(left, right) {
			t.Errorf("Not of And is not Or of Not, with %d bits", len(x))
		}
		if again, _ := Not(notA); !same(again, a) {
			t.Errorf("Not of Not, with %d bits", len(x))
		}
	}
}

// P1.9 and the rule about values: a result shares no memory with an argument.
func TestArgumentsStay(t *testing.T) {
	room := make([]uint64, 2, 8)
	room[0], room[1] = 33, 5
	a := api.Bits{Size: 70, Words: room}
	b := api.Bits{Size: 70, Words: []uint64{12, 3}}
	calls := map[string]func() (api.Bits, int){
		"Set":        func() (api.Bits, int) { return Set(a, 3, true) },
		"Set of it":  func() (api.Bits, int) { return Set(a, 0, true) },
		"Fill":       func() (api.Bits, int) { return Fill(a, 1, 70, true) },
		"Fill empty": func() (api.Bits, int) { return Fill(a, 2, 2, true) },
		"And":        func() (api.Bits, int) { return And(a, b) },
		"And itself": func() (api.Bits, int) { return And(a, a) },
		"Or":         func() (api.Bits, int) { return Or(a, b) },
		"Not":        func() (api.Bits, int) { return Not(a) },
	}
	for name, call := range calls {
		out, e := call()
		if e != api.OK {
			t.Fatalf("%s: %d", name, e)
		}
		for i := range out.Words[:cap(out.Words)] {
			out.Words[:cap(out.Words)][i] = 77
		}
		if !slices.Equal(room[:8], []uint64{33, 5, 0, 0, 0, 0, 0, 0}) || !slices.Equal(b.Words, []uint64{12, 3}) {
			t.Fatalf("%s: an argument has changed: %v, %v", name, room[:8], b.Words)
		}
	}
}

func TestExamples(t *testing.T) {
	b, e := New(70)
	expect(t, "New", b, e, make([]bool, 70))
	c, e := Set(b, 65, true)
	if e != api.OK || !slices.Equal(c.Words, []uint64{0, 2}) {
		t.Errorf("Set: %v, %d", c, e)
	}
	if Find(c, 0, true) != 65 || Find(c, 65, false) != 66 || Count(c, 0, 70) != 1 || Count(c, 0, 65) != 0 {
		t.Error("Find or Count")
	}
	d := api.Bits{Size: 8, Words: []uint64{1<<0 | 1<<5}}
	if FindRun(d, 2, 2, false) != 2 || FindRun(d, 3, 2, false) != 2 || FindRun(d, 4, 2, false) != -1 {
		t.Error("FindRun")
	}
	three, _ := New(3)
	if n, e := Not(three); e != api.OK || !slices.Equal(n.Words, []uint64{7}) {
		t.Errorf("Not: %v, %d", n, e)
	}
}
