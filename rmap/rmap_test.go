package rmap

import (
	"maps"
	"math"
	"math/rand"
	"slices"
	"testing"

	"estovers/api"
	"estovers/pagetable"
)

// limits are the limits of int, of spaces and of pages, and the numbers beside them.
func limits() []int {
	return []int{math.MinInt, math.MinInt + 1, -1 << 32, -512, -8, -2, -1, 0, 1, 6, 7, 8, 9, 510, 511, 512, 513, 1 << 32, math.MaxInt - 1, math.MaxInt}
}

// listOf returns the mappings with these spaces and pages.
func listOf(numbers ...int) []api.Mapping {
	var l []api.Mapping
	for n := 0; n+1 < len(numbers); n += 2 {
		l = append(l, api.Mapping{Space: numbers[n], Page: numbers[n+1]})
	}
	return l
}

// chapter returns the list of the example of the chapter.
func chapter() []api.Mapping { return listOf(0, 9, 1, 7, 2, 3) }

// tuples calls f for all lists of a length of these values; f may not keep them.
func tuples[E any](length int, values []E, f func(l []E)) {
	l := make([]E, length)
	var fill func(at int)
	fill = func(at int) {
		if at == length {
			f(l)
			return
		}
		for _, v := range values {
			l[at] = v
			fill(at + 1)
		}
	}
	fill(0)
}

// P24.1 to P24.3: all functions of lists, for all short lists, valid and not.
func TestShortLists(t *testing.T) {
	values := listOf(0, 0, 0, 9, 1, 7, 1, 9, 2, 3, 7, 9, 7, 511, 8, 0, -1, 5, 3, 512, 3, -1)
	var actions []action
	for _, m := range append(values, api.Mapping{Space: 2, Page: 9}, api.Mapping{Space: 5}) {
		actions = append(actions, addAction(m), removeAction(m))
	}
	for from := -1; from <= 8; from++ {
		actions = append(actions, dropAction(from))
		for to := -1; to <= 8; to++ {
			actions = append(actions, copyAction(from, to))
		}
	}
	for length := range 4 {
		tuples(length, values, func(l []api.Mapping) {
			for _, m := range values {
				expectLooks(t, l, m)
			}
			for _, a := range actions {
				expect(t, l, a)
			}
		})
	}
}

// P24.1: lists with an error, literally.
func TestCheck(t *testing.T) {
	for _, x := range []struct {
		l    []api.Mapping
		want int
	}{
		{nil, api.OK}, {listOf(0, 0), api.OK}, {listOf(7, 511), api.OK}, {listOf(0, 511, 1, 0), api.OK}, {listOf(0, 0, 0, 1), api.OK},
		{listOf(8, 0), api.ErrRange}, {listOf(-1, 0), api.ErrRange}, {listOf(0, 512), api.ErrRange}, {listOf(0, -1), api.ErrRange},
		{listOf(0, 1, 0, 1), api.ErrOrder}, {listOf(0, 2, 0, 1), api.ErrOrder}, {listOf(1, 0, 0, 1), api.ErrOrder}, {listOf(0, 1, 0, 2, 0, 2), api.ErrOrder},
		{listOf(1, 0, 0, 1, 8, 0), api.ErrRange}, {listOf(0, 1, 0, 1, 0, 512), api.ErrRange}, {listOf(-1, 0, 0, 512), api.ErrRange},
	} {
		if e := Check(x.l); e != x.want {
			t.Errorf("Check(%v) = %d, want %d", x.l, e, x.want)
		}
	}
}

// P24.1 to P24.3: spaces and pages of all magnitudes.
func TestLimits(t *testing.T) {
	for _, n := range limits() {
		for _, m := range limits() {
			one := api.Mapping{Space: n, Page: m}
			for _, l := range [][]api.Mapping{nil, {one}, chapter(), append(chapter(), one), append([]api.Mapping{one}, chapter()...), listOf(0, 0, 7, 511)} {
				expectLooks(t, l, one)
				expect(t, l, addAction(one))
				expect(t, l, removeAction(one))
				expect(t, l, copyAction(n, m))
				expect(t, l, dropAction(n))
			}
		}
	}
}

// P24.2 and P24.3: which error comes first.
func TestFirstError(t *testing.T) {
	good, wrong := api.Mapping{Space: 1, Page: 7}, api.Mapping{Space: 8}
	for _, x := range []struct {
		l    []api.Mapping
		a    action
		want int
	}{
		{listOf(0, 2, 0, 1), addAction(wrong), api.ErrOrder},
		{listOf(9, 0, 0, 1), addAction(good), api.ErrRange},
		{chapter(), addAction(wrong), api.ErrRange},
		{chapter(), addAction(good), api.ErrExist},
		{listOf(0, 2, 0, 1), removeAction(wrong), api.ErrOrder},
		{listOf(8, 0), removeAction(wrong), api.ErrRange},
		{chapter(), removeAction(wrong), api.ErrNone},
		{nil, removeAction(good), api.ErrNone},
		{listOf(0, 2, 0, 1), copyAction(-1, 8), api.ErrOrder},
		{listOf(0, 512), copyAction(0, 1), api.ErrRange},
		{chapter(), copyAction(0, 8), api.ErrRange},
		{chapter(), copyAction(8, 0), api.ErrRange},
		{chapter(), copyAction(-1, 0), api.ErrRange},
		{chapter(), copyAction(0, -1), api.ErrRange},
		{chapter(), copyAction(3, 8), api.ErrRange},
		{chapter(), copyAction(0, 0), api.ErrExist},
		{chapter(), copyAction(3, 3), api.OK},
		{chapter(), copyAction(3, 0), api.OK},
		{chapter(), copyAction(0, 2), api.OK},
		{listOf(0, 1, 0, 9, 4, 9), copyAction(0, 4), api.ErrExist},
		{listOf(0, 1, 0, 9, 4, 9), copyAction(4, 0), api.ErrExist},
		{listOf(0, 1, 0, 9, 4, 8), copyAction(0, 4), api.OK},
	} {
		got, e := expect(t, x.l, x.a)
		if e != x.want || e != api.OK && len(got) != 0 {
			t.Errorf("%s of %v = %v, %d, want %d", x.a.what, x.l, got, e, x.want)
		}
	}
}

// P24.3: lists that are not valid have nothing left.
func TestDrop(t *testing.T) {
	for _, l := range [][]api.Mapping{listOf(8, 0), listOf(0, 1, 0, 1), listOf(2, 0, 1, 0), listOf(0, 1, 3, 600)} {
		for space := -1; space <= 8; space++ {
			if got := Drop(l, space); len(got) != 0 {
				t.Errorf("Drop(%v, %d) = %v", l, space, got)
			}
		}
	}
	for _, n := range append(limits(), 2) {
		want := 3
		if n >= 0 && n <= 2 {
			want = 2
		}
		if got := Drop(chapter(), n); len(got) != want {
			t.Errorf("Drop of space %d = %v", n, got)
		}
	}
}

// ordered returns the mappings of a set in their order.
func ordered(set map[api.Mapping]bool) []api.Mapping {
	return slices.SortedFunc(maps.Keys(set), func(a, b api.Mapping) int { return (a.Space-b.Space)*512 + a.Page - b.Page })
}

// P24.5: a list is the set of what was added and not removed since.
func TestScripts(t *testing.T) {
	random := rand.New(rand.NewSource(1))
	for range 20 {
		var l []api.Mapping
		set := map[api.Mapping]bool{}
		for range 400 {
			m := api.Mapping{Space: random.Intn(9), Page: random.Intn(6) * 100}
			a := addAction(m)
			if random.Intn(2) == 0 {
				a = removeAction(m)
			}
			next, e := expect(t, l, a)
			if e != api.OK {
				continue
			}
			if set[m] {
				delete(set, m)
			} else {
				set[m] = true
			}
			if l = next; !slices.Equal(l, ordered(set)) {
				t.Fatalf("%s leaves %v, want %v", a.what, l, ordered(set))
			}
		}
	}
}

// randomList returns a valid list.
func randomList(random *rand.Rand) []api.Mapping {
	set := map[api.Mapping]bool{}
	for range random.Intn(30) {
		set[api.Mapping{Space: random.Intn(8), Page: []int{0, 1, 7, 100, 300, 511}[random.Intn(6)]}] = true
	}
	return ordered(set)
}

// P24.5: a copy that is dropped again leaves the list as it was, if nothing was in that space.
func TestCopiesDropped(t *testing.T) {
	random := rand.New(rand.NewSource(2))
	restored, refused := 0, 0
	for range 4000 {
		l := randomList(random)
		from, to := random.Intn(8), random.Intn(8)
		next, e := expect(t, l, copyAction(from, to))
		without, _ := expect(t, l, dropAction(to))
		if e != api.OK {
			refused++
			continue
		}
		if back, _ := expect(t, next, dropAction(to)); !slices.Equal(back, without) {
			t.Fatalf("Drop(%d) of %v = %v, want %v", to, next, back, without)
		}
		if len(next) > len(l) && len(without) == len(l) {
			restored++
		}
	}
	if restored < 100 || refused < 100 {
		t.Errorf("too few cases: %d, %d", restored, refused)
	}
}

// Words of entries, by their bits as the chapter of layer 5 gives them.
func pageWord(frame, flags int) uint64 { return uint64(1 + 8*flags + 256*frame) }
func hugeWord(frame, flags int) uint64 { return uint64(65 + 8*flags + 256*frame) }
func swapWord(slot int) uint64         { return uint64(2 + 256*slot) }
func moveWord(frame int) uint64        { return uint64(3 + 256*frame) }

// put writes the entry of a page, or of the group that it begins, if it has none, with frames from a number on for what is missing.
func put(t api.PageTable, page int, word uint64, next int) api.PageTable {
	isHuge := word%8 == 1 && word&64 != 0
	for count := range 4 {
		var frames []int
		for i := range count {
			frames = append(frames, next+i)
		}
		out, e := pagetable.Set(t, page, word, frames)
		if isHuge {
			out, e = pagetable.SetHuge(t, page/8, word, frames)
		}
		if e == api.OK {
			return out
		}
	}
	return t
}

// entry is an entry of a page.
type entry struct {
	page int
	word uint64
}

// tableOf returns the page table with these entries, whose tables are in frames from 1000 on.
func tableOf(entries ...entry) api.PageTable {
	t, _ := pagetable.New(1000)
	for i, x := range entries {
		t = put(t, x.page, x.word, 1001+3*i)
	}
	return t
}

// sample returns page tables with entries of all kinds, of which the third is not valid.
func sample() []api.PageTable {
	invalid := tableOf(entry{3, pageWord(5, 0)})
	invalid.Root = 5
	return []api.PageTable{
		tableOf(entry{70, pageWord(5, 7)}, entry{9, pageWord(5, 0)}, entry{10, moveWord(6)}, entry{11, moveWord(5) + 8}, entry{12, swapWord(5)}, entry{511, pageWord(0, 1)}),
		tableOf(entry{16, hugeWord(0, 1)}, entry{64, hugeWord(8, 7)}, entry{80, pageWord(7, 0)}, entry{0, pageWord(15, 0)}),
		invalid,
		tableOf(),
		tableOf(entry{70, pageWord(5, 3)}, entry{72, swapWord(9)}),
	}
}

// P24.4: which pages name which frames, literally.
func TestKindsOfEntries(t *testing.T) {
	for frame, want := range [][]api.Mapping{
		0:  listOf(0, 511, 1, 16),
		1:  listOf(1, 17),
		5:  listOf(0, 9, 0, 11, 0, 70, 1, 21, 4, 70),
		6:  listOf(0, 10, 1, 22),
		7:  listOf(1, 23, 1, 80),
		8:  listOf(1, 64),
		9:  listOf(1, 65),
		15: listOf(1, 0, 1, 71),
		16: nil,
	} {
		if got := expectOf(t, sample(), frame); want != nil && !slices.Equal(got, want) {
			t.Errorf("Of frame %d = %v, want %v", frame, got, want)
		}
	}
	// The frames of the tables themselves are not named.
	for _, frame := range append(limits(), 16, 1000, 1001, 1002, 1003, 1<<32-1) {
		if got := expectOf(t, sample(), frame); len(got) > 0 && (frame < 0 || frame > 15) {
			t.Errorf("Of frame %d = %v", frame, got)
		}
	}
	last := []api.PageTable{tableOf(entry{0, hugeWord(1<<32-8, 0)}, entry{8, pageWord(1<<32-1, 0)}, entry{9, moveWord(1<<32 - 1)})}
	if got := expectOf(t, last, 1<<32-1); !slices.Equal(got, listOf(0, 7, 0, 8, 0, 9)) {
		t.Errorf("Of the last frame = %v", got)
	}
	if got := expectOf(t, last, 1<<32); len(got) != 0 {
		t.Errorf("Of the frame behind the last one = %v", got)
	}
}

// P24.4: only the first eight tables are considered.
func TestManyTables(t *testing.T) {
	var tables []api.PageTable
	for i := range 10 {
		tables = append(tables, tableOf(entry{20 + i, pageWord(0, 0)}))
	}
	if got := expectOf(t, tables, 0); !slices.Equal(got, listOf(0, 20, 1, 21, 2, 22, 3, 23, 4, 24, 5, 25, 6, 26, 7, 27)) {
		t.Errorf("Of ten tables = %v", got)
	}
	tables[8] = tableOf(entry{0, pageWord(77, 0)})
	all := [][]api.Mapping{Of(tables, 0)}
	if !expectInverse(t, tables, all) || !expectInverse(t, tables[:8], all) || expectInverse(t, tables[:7], all) {
		t.Error("Inverse considers other tables than the first eight")
	}
	tables[7] = tables[8]
	if expectInverse(t, tables, [][]api.Mapping{Of(tables, 0)}) {
		t.Error("Inverse does not consider the eighth table")
	}
}

// randomTables returns page tables whose entries name the first frames; a few are not valid.
func randomTables(random *rand.Rand) []api.PageTable {
	var out []api.PageTable
	for range random.Intn(11) {
		t := tableOf()
		for i := range random.Intn(12) {
			page := random.Intn(30) + random.Intn(2)*480
			word := []uint64{pageWord(random.Intn(16), random.Intn(8)), swapWord(random.Intn(16)), moveWord(random.Intn(16)), hugeWord(random.Intn(9), random.Intn(8))}[random.Intn(4)]
			t = put(t, min(page, 511), word, 1001+3*i)
		}
		if random.Intn(12) == 0 {
			t.Root = 2000
		}
		out = append(out, t)
	}
	return out
}

// P24.4 and P24.5: Of and Inverse, and that a mapping more or less is found.
func TestRandomTables(t *testing.T) {
	random := rand.New(rand.NewSource(3))
	met := map[string]int{}
	for range 600 {
		tables := randomTables(random)
		var all [][]api.Mapping
		for frame := range 16 {
			all = append(all, expectOf(t, tables, frame))
		}
		if !expectInverse(t, tables, all) || !expectInverse(t, tables, append(slices.Clone(all), nil, nil)) {
			t.Fatalf("Inverse(%v, %v) is false", tables, all)
		}
		frame := random.Intn(16)
		if short := expectInverse(t, tables, all[:frame]); short {
			met["short"]++
		} else {
			met["too short"]++
		}
		m := api.Mapping{Space: random.Intn(8), Page: random.Intn(30)}
		changed, e := Remove(all[frame], m)
		if random.Intn(2) == 0 && len(all[frame]) > 0 {
			changed, e = Remove(all[frame], all[frame][random.Intn(len(all[frame]))])
		}
		met["removed"]++
		if e != api.OK {
			changed, _ = Add(all[frame], m)
			met["removed"]--
			met["added"]++
		}
		other := slices.Clone(all)
		other[frame] = changed
		if expectInverse(t, tables, other) {
			t.Fatalf("Inverse(%v, %v) is true with a change of frame %d", tables, other, frame)
		}
	}
	for _, what := range []string{"short", "too short", "removed", "added"} {
		if met[what] < 50 {
			t.Errorf("too few cases of %s: %v", what, met)
		}
	}
}

// P24.4: Inverse of lists of any form, and without tables.
func TestInverseOfAnyLists(t *testing.T) {
	tables := []api.PageTable{tableOf(entry{4, pageWord(0, 0)}, entry{5, pageWord(0, 0)}, entry{6, moveWord(2)})}
	for _, x := range []struct {
		tables []api.PageTable
		maps   [][]api.Mapping
		want   bool
	}{
		{nil, nil, true},
		{nil, [][]api.Mapping{nil, {}}, true},
		{nil, [][]api.Mapping{nil, listOf(0, 0)}, false},
		{tables, nil, false},
		{tables, [][]api.Mapping{listOf(0, 4, 0, 5)}, false},
		{tables, [][]api.Mapping{listOf(0, 4, 0, 5), nil}, false},
		{tables, [][]api.Mapping{listOf(0, 4, 0, 5), nil, listOf(0, 6)}, true},
		{tables, [][]api.Mapping{listOf(0, 4, 0, 5), {}, listOf(0, 6), {}}, true},
		{tables, [][]api.Mapping{listOf(0, 5, 0, 4), nil, listOf(0, 6)}, false},
		{tables, [][]api.Mapping{listOf(0, 4, 0, 5, 0, 5), nil, listOf(0, 6)}, false},
		{tables, [][]api.Mapping{listOf(0, 4, 0, 5), listOf(-1, 900), listOf(0, 6)}, false},
		{tables, [][]api.Mapping{listOf(0, 4, 0, 5), nil, listOf(0, 6), listOf(0, 6)}, false},
		{[]api.PageTable{{}, tables[0]}, [][]api.Mapping{listOf(1, 4, 1, 5), nil, listOf(1, 6)}, true},
		{[]api.PageTable{tableOf(entry{0, swapWord(9)})}, nil, true},
		{[]api.PageTable{tableOf(entry{0, pageWord(1<<32-1, 0)})}, make([][]api.Mapping, 5), false},
		{[]api.PageTable{tableOf(entry{0, hugeWord(0, 0)})}, [][]api.Mapping{listOf(0, 0), listOf(0, 1), listOf(0, 2), listOf(0, 3), listOf(0, 4), listOf(0, 5), listOf(0, 6)}, false},
		{[]api.PageTable{tableOf(entry{0, hugeWord(0, 0)})}, [][]api.Mapping{listOf(0, 0), listOf(0, 1), listOf(0, 2), listOf(0, 3), listOf(0, 4), listOf(0, 5), listOf(0, 6), listOf(0, 7)}, true},
	} {
		if got := expectInverse(t, x.tables, x.maps); got != x.want {
			t.Errorf("Inverse(%v, %v) = %t", x.tables, x.maps, got)
		}
	}
}

// withMark returns a copy with a mark in the spare capacity behind it.
func withMark[E any](l []E, mark E) []E {
	return append(slices.Clone(l), mark)[:len(l)]
}

// isMarked reports whether l is equal to want, with the mark in its place.
func isMarked[E comparable](l, want []E, mark E) bool {
	return slices.Equal(l, want) && l[:len(l)+1][len(l)] == mark
}

// overwrite changes everything in a list, and behind it.
func overwrite[E any](l []E, to E) {
	l = l[:cap(l)]
	for i := range l {
		l[i] = to
	}
}

// The rule 'Values', for lists.
func TestArgumentsStay(t *testing.T) {
	mark, other := api.Mapping{Space: 99}, api.Mapping{Space: 6, Page: 6}
	var actions []action
	for space := -1; space <= 8; space++ {
		actions = append(actions, dropAction(space), addAction(api.Mapping{Space: space, Page: 7}), removeAction(api.Mapping{Space: space, Page: 3}))
		for to := -1; to <= 8; to++ {
			actions = append(actions, copyAction(space, to))
		}
	}
	for _, l := range [][]api.Mapping{{}, chapter(), listOf(0, 1, 0, 2, 2, 3, 7, 7), listOf(3, 0, 2, 0)} {
		for _, a := range actions {
			argument := withMark(l, mark)
			got, _ := a.do(argument)
			expectLooks(t, argument, api.Mapping{Space: 1, Page: 7})
			if !isMarked(argument, l, mark) {
				t.Fatalf("%s: the argument has changed", a.what)
			}
			want := slices.Clone(got)
			overwrite(argument, other)
			if !slices.Equal(got, want) {
				t.Fatalf("%s: the result changes with the argument", a.what)
			}
			argument = withMark(l, mark)
			got, _ = a.do(argument)
			overwrite(got, other)
			if !isMarked(argument, l, mark) {
				t.Fatalf("%s: the argument changes with the result", a.what)
			}
		}
	}
}

// The rule 'Values', for page tables and for the lists of Inverse.
func TestTablesStay(t *testing.T) {
	mark := api.Mapping{Space: 99}
	tables := withMark(sample(), api.PageTable{Root: 99})
	var all, want [][]api.Mapping
	for frame := range 16 {
		want = append(want, Of(tables, frame))
		all = append(all, withMark(want[frame], mark))
	}
	all = withMark(all, []api.Mapping{mark})
	if !Inverse(tables, all) || all[:17][16][0] != mark || tables[:6][5].Root != 99 {
		t.Error("Inverse, or a change of its arguments")
	}
	for frame := range 16 {
		if !isMarked(all[frame], want[frame], mark) {
			t.Errorf("the list of frame %d has changed", frame)
		}
		overwrite(Of(tables, frame), mark)
		if !slices.Equal(expectOf(t, tables, frame), want[frame]) {
			t.Errorf("the mappings of frame %d change with an earlier result", frame)
		}
	}
}

// The examples of the chapter.
func TestExamples(t *testing.T) {
	m := api.Mapping{Space: 1, Page: 7}
	l, e := Add(listOf(0, 9, 2, 3), m)
	if !slices.Equal(l, chapter()) || e != api.OK || !Has(l, m) {
		t.Errorf("Add = %v, %d", l, e)
	}
	if again, e := Add(l, m); len(again) != 0 || e != api.ErrExist {
		t.Errorf("Add again = %v, %d", again, e)
	}
	if out, e := Copy(l, 0, 5); !slices.Equal(out, listOf(0, 9, 1, 7, 2, 3, 5, 9)) || e != api.OK {
		t.Errorf("Copy = %v, %d", out, e)
	}
	if out, e := Copy(l, 0, 0); len(out) != 0 || e != api.ErrExist {
		t.Errorf("Copy to the same space = %v, %d", out, e)
	}
	if out := Drop(l, 1); !slices.Equal(out, listOf(0, 9, 2, 3)) {
		t.Errorf("Drop = %v", out)
	}
	if out, e := Remove(l, m); !slices.Equal(out, listOf(0, 9, 2, 3)) || e != api.OK {
		t.Errorf("Remove = %v, %d", out, e)
	}
}
