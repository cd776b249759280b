package tlb

import (
	"math"
	"math/rand"
	"slices"
	"testing"

	"estovers/api"
)

// places are pages, and numbers that are none.
func places() []int {
	return []int{0, 1, 4, 5, 6, 7, 8, 9, 12, 15, 16, 17, 22, 23, 24, 64, 503, 504, 510, 511, 512, 519, -1, -3, -8, 1 << 32, math.MinInt, math.MaxInt, math.MaxInt - 7}
}

// spaces are the limits of spaces, and numbers that are none.
func spaces() []int { return []int{0, 1, 2, 7, 8, -1, math.MinInt, math.MaxInt} }

// P7.1 for New.
func TestNew(t *testing.T) {
	for _, size := range []int{math.MinInt, -1, 0, 1, 2, 8, 15, 16, 17, 256, math.MaxInt} {
		got, e := New(size)
		if size < 1 || size > 16 {
			expect(t, "New", api.Tlb{Size: size}, got, e, api.Tlb{}, api.ErrArg)
			continue
		}
		expect(t, "New", api.Tlb{Size: size}, got, e, api.Tlb{Size: size}, api.OK)
	}
}

// P7.1 for Check, with literal errors.
func TestCheckErrors(t *testing.T) {
	for _, c := range []struct {
		what    string
		size    int
		entries []api.TlbEntry
		want    int
	}{
		{"no entries", 1, nil, api.OK},
		{"the greatest size", 16, []api.TlbEntry{{Space: 7, Page: 511, Entry: 257}}, api.OK},
		{"size 0", 0, nil, api.ErrArg},
		{"size 17", 17, nil, api.ErrArg},
		{"size 0 and entries", 0, []api.TlbEntry{{Space: -1}}, api.ErrArg},
		{"too many entries", 1, []api.TlbEntry{{Page: 1, Entry: 257}, {Page: 2, Entry: 257}}, api.ErrFull},
		{"too many bad entries", 1, []api.TlbEntry{{Space: -1}, {Page: 2, Entry: 0}}, api.ErrFull},
		{"space 8", 2, []api.TlbEntry{{Space: 8, Page: 1, Entry: 257}}, api.ErrRange},
		{"page 512", 2, []api.TlbEntry{{Page: 512, Entry: 257}}, api.ErrRange},
		{"page -1 and no word", 2, []api.TlbEntry{{Page: -1}}, api.ErrRange},
		{"no entry", 2, []api.TlbEntry{{Page: 1}}, api.ErrForm},
		{"a slot", 2, []api.TlbEntry{{Page: 1, Entry: 258}}, api.ErrForm},
		{"a frame that moves", 2, []api.TlbEntry{{Page: 1, Entry: 259}}, api.ErrForm},
		{"a table", 2, []api.TlbEntry{{Page: 1, Entry: 260}}, api.ErrForm},
		{"bit 7", 2, []api.TlbEntry{{Page: 1, Entry: 257 + 128}}, api.ErrForm},
		{"huge, not aligned", 2, []api.TlbEntry{{Page: 12, Entry: 4161}}, api.ErrForm},
		{"not huge, not aligned", 2, []api.TlbEntry{{Page: 12, Entry: 4097}}, api.OK},
		{"twice", 2, []api.TlbEntry{{Page: 1, Entry: 257}, {Page: 1, Entry: 513}}, api.ErrExist},
		{"twice, of two spaces", 2, []api.TlbEntry{{Page: 1, Entry: 257}, {Space: 1, Page: 1, Entry: 257}}, api.OK},
		{"a page, then its group", 2, []api.TlbEntry{{Page: 15, Entry: 257}, {Page: 8, Entry: 4161}}, api.ErrExist},
		{"a group, then its page", 2, []api.TlbEntry{{Page: 8, Entry: 4161}, {Page: 15, Entry: 257}}, api.ErrExist},
		{"a group, then the page behind it", 2, []api.TlbEntry{{Page: 8, Entry: 4161}, {Page: 16, Entry: 257}}, api.OK},
		{"a group, then the page before it", 2, []api.TlbEntry{{Page: 8, Entry: 4161}, {Page: 7, Entry: 257}}, api.OK},
		{"form, then range", 2, []api.TlbEntry{{Page: 1, Entry: 0}, {Page: 512, Entry: 257}}, api.ErrForm},
		{"exist, then range", 3, []api.TlbEntry{{Page: 1, Entry: 257}, {Page: 1, Entry: 257}, {Page: 512}}, api.ErrExist},
	} {
		if e := Check(api.Tlb{Size: c.size, Entries: c.entries}); e != c.want {
			t.Errorf("%s: Check = %d, want %d", c.what, e, c.want)
		}
	}
}

// P7.1 for Check, against its reading.
func TestCheck(t *testing.T) {
	for _, b := range append(samples(), invalidCaches()...) {
		if e := Check(b); e != checked(b) {
			t.Fatalf("Check(%v) = %d, want %d", b, e, checked(b))
		}
	}
	random := rand.New(rand.NewSource(1))
	seen := map[int]int{}
	for range 20000 {
		b := randomCache(random)
		if e := Check(b); e != checked(b) {
			t.Fatalf("Check(%v) = %d, want %d", b, e, checked(b))
		}
		seen[checked(b)]++
	}
	for _, e := range []int{api.OK, api.ErrArg, api.ErrFull, api.ErrRange, api.ErrForm, api.ErrExist} {
		if seen[e] < 100 {
			t.Errorf("the result %d occurred %d times", e, seen[e])
		}
	}
}

// P7.1, for a list of entries that is very long.
func TestCheckLarge(t *testing.T) {
	b := api.Tlb{Size: math.MaxInt, Entries: make([]api.TlbEntry, 1<<20)}
	if e := Check(b); e != api.ErrArg {
		t.Errorf("Check = %d", e)
	}
	b.Size = 16
	if e := Check(b); e != api.ErrFull {
		t.Errorf("Check = %d", e)
	}
}

// P7.2
func TestLookup(t *testing.T) {
	expectFound := func(b api.Tlb, space, page int) {
		w, ok := Lookup(b, space, page)
		want, wantOk := found(b, space, page)
		if w != want || ok != wantOk || Covers(b, space, page) != wantOk {
			t.Fatalf("in %v space %d page %d: Lookup = %d, %t, Covers = %t, want %d, %t", b, space, page, w, ok, Covers(b, space, page), want, wantOk)
		}
	}
	for _, b := range samples() {
		for _, space := range spaces() {
			for _, page := range places() {
				expectFound(b, space, page)
			}
			for page := range 512 {
				expectFound(b, space, page)
			}
		}
	}
	for _, b := range invalidCaches() {
		for _, e := range b.Entries {
			expectFound(b, e.Space, e.Page)
		}
	}
}

// P7.3, for all words at all places.
func TestFill(t *testing.T) {
	for _, b := range samples() {
		for _, space := range spaces() {
			for _, page := range places() {
				for _, w := range words() {
					got, e := Fill(b, space, page, w)
					want, wantError := filled(b, space, page, w)
					expect(t, "Fill", b, got, e, want, wantError)
				}
			}
		}
	}
}

// P7.3 and P7.4: the order of the errors.
func TestErrors(t *testing.T) {
	for _, b := range invalidCaches() {
		for _, space := range []int{0, 8} {
			for _, page := range []int{5, 512} {
				for _, w := range []uint64{257, 258} {
					got, e := Fill(b, space, page, w)
					expect(t, "Fill", b, got, e, api.Tlb{}, checked(b))
				}
				got, e := Invalidate(b, space, page)
				expect(t, "Invalidate", b, got, e, api.Tlb{}, checked(b))
			}
			got, e := Flush(b, space)
			expect(t, "Flush", b, got, e, api.Tlb{}, checked(b))
		}
	}
}

// P7.4
func TestInvalidateAndFlush(t *testing.T) {
	for _, b := range samples() {
		for _, space := range spaces() {
			for _, page := range places() {
				got, e := Invalidate(b, space, page)
				want, wantError := invalidated(b, space, page)
				expect(t, "Invalidate", b, got, e, want, wantError)
			}
			got, e := Flush(b, space)
			want, wantError := flushed(b, space)
			expect(t, "Flush", b, got, e, want, wantError)
		}
	}
}

// P7.2 to P7.4 and P7.6, with long sequences.
func TestSequences(t *testing.T) {
	random := rand.New(rand.NewSource(2))
	all := words()
	for range 40 {
		b, _ := New(1 + random.Intn(16))
		for range 400 {
			space, page := random.Intn(3), random.Intn(40)
			got, e := api.Tlb{}, api.OK
			want, wantError := api.Tlb{}, api.OK
			switch random.Intn(12) {
			case 0, 1:
				got, e = Invalidate(b, space, page)
				want, wantError = invalidated(b, space, page)
				if Covers(got, space, page) {
					t.Fatalf("%v covers page %d of space %d", got, page, space)
				}
			case 2:
				space = random.Intn(10) - 1
				got, e = Flush(b, space)
				want, wantError = flushed(b, space)
				if slices.ContainsFunc(got.Entries, func(e api.TlbEntry) bool { return e.Space == space }) {
					t.Fatalf("%v has an entry of space %d", got, space)
				}
			default:
				w := all[random.Intn(len(all))]
				got, e = Fill(b, space, page, w)
				want, wantError = filled(b, space, page, w)
			}
			expect(t, "a step", b, got, e, want, wantError)
			if e == api.OK {
				b = got
			}
		}
	}
}

// P7.6: after a Fill, each page that the new entry covers has its word.
func TestFillCovers(t *testing.T) {
	for _, b := range samples() {
		for space := range 8 {
			for page := range 512 {
				for _, w := range []uint64{513, 4161} {
					got, e := Fill(b, space, page, w)
					if e != api.OK {
						t.Fatalf("Fill(%v, %d, %d, %d) has the error %d", b, space, page, w, e)
					}
					pages := []int{page}
					if w == 4161 {
						pages = pagesOf(api.TlbEntry{Page: page / 8 * 8, Entry: w})
					}
					for _, p := range pages {
						if word, ok := Lookup(got, space, p); word != w || !ok {
							t.Fatalf("Lookup(%v, %d, %d) = %d, %t", got, space, p, word, ok)
						}
					}
				}
			}
		}
	}
}

// P7.6: the last Size different pages are cached.
func TestLastPages(t *testing.T) {
	random := rand.New(rand.NewSource(3))
	for size := 1; size <= 16; size++ {
		b, _ := New(size)
		var last []api.Mapping
		for range 300 {
			m := api.Mapping{Space: random.Intn(2), Page: random.Intn(12)}
			b, _ = Fill(b, m.Space, m.Page, pageWord(m.Page, 0))
			last = append(slices.DeleteFunc(last, func(o api.Mapping) bool { return o == m }), m)
			last = last[max(0, len(last)-size):]
			for space := range 2 {
				for page := range 12 {
					if want := slices.Contains(last, api.Mapping{Space: space, Page: page}); Covers(b, space, page) != want {
						t.Fatalf("in %v page %d of space %d is cached: %t", b, page, space, !want)
					}
				}
			}
		}
	}
}

// withMark returns a copy of b whose list has spare capacity with a mark in it.
func withMark(b api.Tlb) api.Tlb {
	entries := append(slices.Clone(b.Entries), api.TlbEntry{Page: 991})
	b.Entries = entries[:len(entries)-1]
	return b
}

// isMarked reports whether b is equal to want, with the mark in its place.
func isMarked(b, want api.Tlb) bool {
	n := len(b.Entries)
	return same(b, want) && b.Entries[:n+1][n].Page == 991
}

// overwrite changes everything in b.
func overwrite(b api.Tlb) {
	for i := range b.Entries {
		b.Entries[i] = api.TlbEntry{Page: 77}
	}
	_ = append(b.Entries, api.TlbEntry{Page: 77})
}

// P7.5
func TestArgumentsStay(t *testing.T) {
	type change func(b api.Tlb) (api.Tlb, int)
	var changes []change
	for _, page := range []int{5, 8, 15, 16, 20, 300, 512} {
		for _, w := range []uint64{257, 4161, 258} {
			changes = append(changes, func(b api.Tlb) (api.Tlb, int) { return Fill(b, 0, page, w) })
		}
		changes = append(changes, func(b api.Tlb) (api.Tlb, int) { return Invalidate(b, 0, page) })
	}
	for _, space := range []int{0, 1, 6, 8} {
		changes = append(changes, func(b api.Tlb) (api.Tlb, int) { return Flush(b, space) })
	}
	for _, b := range samples() {
		for i, change := range changes {
			argument := withMark(b)
			got, e := change(argument)
			if !isMarked(argument, b) {
				t.Fatalf("change %d of %v: the argument is %v", i, b, argument)
			}
			want := api.Tlb{Size: got.Size, Entries: slices.Clone(got.Entries)}
			overwrite(argument)
			if !same(got, want) {
				t.Fatalf("change %d of %v: the result changes with the argument", i, b)
			}
			argument = withMark(b)
			got, again := change(argument)
			overwrite(got)
			if e != again || !isMarked(argument, b) {
				t.Fatalf("change %d of %v: the argument changes with the result", i, b)
			}
		}
		argument := withMark(b)
		Check(argument)
		Lookup(argument, 0, 5)
		Covers(argument, 0, 8)
		if !isMarked(argument, b) {
			t.Fatalf("Check, Lookup or Covers has changed %v", b)
		}
	}
}

// The examples of the chapter.
func TestExamples(t *testing.T) {
	b, _ := New(2)
	for _, x := range []api.TlbEntry{{Space: 0, Page: 5, Entry: 257}, {Space: 0, Page: 6, Entry: 513}, {Space: 1, Page: 5, Entry: 257}} {
		b, _ = Fill(b, x.Space, x.Page, x.Entry)
	}
	if want := (api.Tlb{Size: 2, Entries: []api.TlbEntry{{Space: 0, Page: 6, Entry: 513}, {Space: 1, Page: 5, Entry: 257}}}); !same(b, want) {
		t.Fatalf("the cache is %v, want %v", b, want)
	}
	for _, x := range []struct {
		space int
		want  uint64
		ok    bool
	}{{0, 0, false}, {1, 257, true}} {
		if w, ok := Lookup(b, x.space, 5); w != x.want || ok != x.ok {
			t.Errorf("Lookup of page 5 of space %d = %d, %t", x.space, w, ok)
		}
	}
	h, e := Fill(b, 0, 12, 4161)
	if e != api.OK || h.Entries[1] != (api.TlbEntry{Space: 0, Page: 8, Entry: 4161}) || !Covers(h, 0, 15) || Covers(h, 0, 16) {
		t.Errorf("Fill of the huge page: %v, %d", h, e)
	}
	if got, e := Fill(b, 0, 6, 258); e != api.ErrForm || !same(got, api.Tlb{}) {
		t.Errorf("Fill of a slot: %v, %d", got, e)
	}
}
