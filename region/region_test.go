package region

import (
	"math"
	"math/rand"
	"slices"
	"testing"

	"estovers/api"
)

// limits are the limits of int, of the address space and of a file, and the numbers beside them.
func limits() []int {
	return []int{math.MinInt, math.MinInt + 1, math.MinInt + 16, math.MinInt + 512, -1 << 32, -513, -512, -511, -17, -16, -2, -1, 0, 1, 2, 3, 4, 5, 7, 8, 9, 15, 16, 17, 510, 511, 512, 513, 1 << 32, math.MaxInt - 512, math.MaxInt - 16, math.MaxInt - 1, math.MaxInt}
}

// span returns the numbers from one to another.
func span(from, to int) []int {
	var out []int
	for n := from; n <= to; n++ {
		out = append(out, n)
	}
	return out
}

// fileRegion returns the region of the example of the chapter.
func fileRegion() api.Region {
	return api.Region{Start: 4, Pages: 6, Prot: 3, Flags: 1, File: 2, Index: 5}
}

// stack returns the growing region of the example of the chapter.
func stack() api.Region { return api.Region{Start: 500, Pages: 12, Prot: 1, Flags: 2, File: -1} }

// choices are values of the fields of a region.
type choices struct{ starts, pages, prots, flags, files, indexes []int }

// regions calls f for all regions of these values.
func (c choices) regions(f func(r api.Region)) {
	for _, start := range c.starts {
		for _, pages := range c.pages {
			for _, prot := range c.prots {
				for _, flags := range c.flags {
					for _, file := range c.files {
						for _, index := range c.indexes {
							f(api.Region{Start: start, Pages: pages, Prot: prot, Flags: flags, File: file, Index: index})
						}
					}
				}
			}
		}
	}
}

// list returns all regions of these values.
func (c choices) list() []api.Region {
	var out []api.Region
	c.regions(func(r api.Region) { out = append(out, r) })
	return out
}

// P22.1 and P22.2: all functions of one region, for all protections, flags and files, valid and not.
func TestAllDescriptions(t *testing.T) {
	c := choices{[]int{-1, 0, 509, 512}, []int{0, 1, 3, 4}, span(-2, 6), span(-2, 18), span(-3, 6), []int{-1, 0, 13}}
	c.regions(func(r api.Region) { expectLooks(t, r, []int{0, 2, 509, 511}) })
}

// P22.1 and P22.2: all functions of one region, for all lengths and places in the address space and in the file.
func TestAllPlaces(t *testing.T) {
	c := choices{slices.Concat(span(-2, 2), span(494, 514)), slices.Concat(span(-1, 18), span(500, 514)), []int{1}, []int{0}, []int{-1, 3}, span(-2, 18)}
	c.regions(func(r api.Region) {
		expectLooks(t, r, []int{r.Start - 1, r.Start, r.Start + r.Pages - 1, r.Start + r.Pages})
	})
}

// bases are valid regions of all kinds, also at the ends of the address space and of the file.
func bases() []api.Region {
	return []api.Region{
		fileRegion(), stack(),
		{Start: 0, Pages: 1, Prot: 1, File: -1},
		{Start: 0, Pages: 512, Prot: 3, File: -1},
		{Start: 511, Pages: 1, Prot: 1, Flags: 14, File: -1},
		{Start: 8, Pages: 8, Prot: 3, Flags: 8, File: -1},
		{Start: 100, Pages: 5, Prot: 3, Flags: 6, File: -1},
		{Start: 496, Pages: 16, Prot: 1, Flags: 5, File: 3},
		{Start: 7, Pages: 3, Prot: 1, File: 0, Index: 13},
		{Start: 1, Pages: 2, Prot: 3, Flags: 4, File: 1},
	}
}

// fields returns pointers to all fields of a region.
func fields(r *api.Region) []*int {
	return []*int{&r.Start, &r.Pages, &r.Prot, &r.Flags, &r.File, &r.Index}
}

// changes calls f for a region with any two of its fields replaced by limits.
func changes(base api.Region, f func(r api.Region)) {
	for i := range fields(&base) {
		for j := range i + 1 {
			for _, n := range limits() {
				for _, m := range limits() {
					r := base
					*fields(&r)[j] = m
					*fields(&r)[i] = n
					f(r)
				}
			}
		}
	}
}

// P22.1 to P22.5: fields, pages and counts of all magnitudes.
func TestLimits(t *testing.T) {
	for _, base := range bases() {
		changes(base, func(r api.Region) {
			expectLooks(t, r, []int{math.MinInt, base.Start, math.MaxInt})
			expectSplit(t, r, base.Start+1)
			expectCut(t, r, base.Start, 2)
		})
		expectLooks(t, base, limits())
		for _, n := range limits() {
			expectSplit(t, base, n)
			for _, m := range limits() {
				expectCut(t, base, n, m)
			}
		}
	}
}

// P22.2 and P22.3: pairs with fields of all magnitudes.
func TestLimitsOfPairs(t *testing.T) {
	for _, base := range bases() {
		next := api.Region{Start: base.Start + base.Pages, Pages: 1, Prot: base.Prot, Flags: base.Flags, File: base.File}
		if base.File >= 0 {
			next.Index = base.Index + base.Pages
		}
		changes(base, func(r api.Region) { expectPair(t, r, next) })
		changes(next, func(r api.Region) { expectPair(t, base, r) })
	}
}

// P22.1 and P22.2, with literal results.
func TestFaults(t *testing.T) {
	for _, x := range []struct {
		r    api.Region
		want int
	}{
		{api.Region{}, api.ErrArg},
		{api.Region{Pages: 1, Prot: 1}, api.OK},
		{api.Region{Pages: -1, Prot: 1, File: -1}, api.ErrArg},
		{api.Region{Pages: 1, Prot: 2, File: -1}, api.ErrArg},
		{api.Region{Pages: 1, Prot: 0, File: -1}, api.ErrArg},
		{api.Region{Pages: 1, Prot: 5, File: -1}, api.ErrArg},
		{api.Region{Pages: 1, Prot: 1, Flags: -1, File: -1}, api.ErrArg},
		{api.Region{Pages: 1, Prot: 1, Flags: 16, File: -1}, api.ErrArg},
		{api.Region{Pages: 1, Prot: 1, Flags: 14, File: -1}, api.OK},
		{api.Region{Pages: 1, Prot: 1, Flags: 15, File: -1}, api.ErrArg},
		{api.Region{Pages: 1, Prot: 1, File: -2}, api.ErrArg},
		{api.Region{Pages: 1, Prot: 1, File: 3}, api.OK},
		{api.Region{Pages: 1, Prot: 1, File: 4}, api.ErrArg},
		{api.Region{Pages: 1, Prot: 1, Flags: api.FlagShared, File: -1}, api.ErrArg},
		{api.Region{Pages: 1, Prot: 1, Flags: api.FlagShared | api.FlagLocked}, api.OK},
		{api.Region{Pages: 1, Prot: 1, Flags: api.FlagGrows}, api.ErrArg},
		{api.Region{Pages: 1, Prot: 1, Flags: api.FlagHuge}, api.ErrArg},
		{api.Region{Start: -1, Pages: 1, Prot: 1, File: -1}, api.ErrRange},
		{api.Region{Start: 512, Pages: 1, Prot: 1, File: -1}, api.ErrRange},
		{api.Region{Start: 1, Pages: 512, Prot: 1, File: -1}, api.ErrRange},
		{api.Region{Start: math.MaxInt, Pages: math.MaxInt, Prot: 1, File: -1}, api.ErrRange},
		{api.Region{Pages: 1, Prot: 1, Index: -1}, api.ErrRange},
		{api.Region{Pages: 1, Prot: 1, File: -1, Index: 1}, api.ErrRange},
		{api.Region{Pages: 17, Prot: 1}, api.ErrRange},
		{api.Region{Pages: 17, Prot: 1, File: -1}, api.OK},
		{api.Region{Pages: 2, Prot: 1, Index: 14}, api.OK},
		{api.Region{Pages: 2, Prot: 1, Index: 15}, api.ErrRange},
		{api.Region{Pages: 2, Prot: 1, Index: math.MaxInt}, api.ErrRange},
		{api.Region{Start: -1, Pages: 1, Prot: 2, File: -1}, api.ErrArg},
		{api.Region{Pages: 17, Prot: 1, Flags: api.FlagHuge, Index: -1}, api.ErrArg},
	} {
		if e := Check(x.r); e != x.want {
			t.Errorf("Check(%v) = %d, want %d", x.r, e, x.want)
		}
		if x.want != api.OK && (End(x.r) != 0 || Page(x.r, 0) != -1 || Has(x.r, 0) || Permits(x.r, false)) {
			t.Errorf("%v, which is not valid, has pages", x.r)
		}
	}
}

// P22.2 and P22.3: all pairs of small regions, also of those that are not valid.
func TestPairs(t *testing.T) {
	all := choices{span(-1, 2), []int{1, 2}, []int{1, 3}, []int{0, 1, 2, 4, 8, 10}, []int{-1, 0, 1}, []int{0, 1, 2}}.list()
	for _, a := range all {
		for _, b := range all {
			expectPair(t, a, b)
		}
	}
	places := choices{slices.Concat(span(0, 8), span(505, 512)), span(0, 7), []int{1}, []int{0}, []int{-1}, []int{0}}.list()
	for _, a := range places {
		for _, b := range places {
			expectPair(t, a, b)
		}
	}
}

// P22.3: of the errors of Merge, that of the first region comes first.
func TestFirstErrorOfMerge(t *testing.T) {
	good, wrong, outside := fileRegion(), fileRegion(), fileRegion()
	wrong.Prot = 2
	outside.Index = 11
	for _, x := range []struct {
		a, b api.Region
		want int
	}{{wrong, outside, api.ErrArg}, {outside, wrong, api.ErrRange}, {good, wrong, api.ErrArg}, {good, outside, api.ErrRange}, {wrong, good, api.ErrArg}, {good, good, api.ErrState}} {
		if got, e := Merge(x.a, x.b); got != (api.Region{}) || e != x.want {
			t.Errorf("Merge(%v, %v) = %v, %d, want %d", x.a, x.b, got, e, x.want)
		}
	}
}

// P22.4 and P22.5: all divisions of all kinds of regions.
func TestDivisions(t *testing.T) {
	small := choices{[]int{0, 1, 3}, span(0, 4), []int{1, 2, 3}, span(0, 15), []int{-1, 2}, []int{0, 1, 13}}
	for _, r := range append(small.list(), fileRegion()) {
		for page := -1; page <= 11; page++ {
			expectSplit(t, r, page)
			for count := -1; count <= 11; count++ {
				expectCut(t, r, page, count)
			}
		}
	}
	for _, r := range bases() {
		for page := -2; page <= 514; page++ {
			expectSplit(t, r, page)
			for _, count := range []int{0, 1, 2, 8, 12, 511 - page, 512 - page, 513 - page} {
				expectCut(t, r, page, count)
			}
		}
	}
}

// P22.4 and P22.5: which error comes first.
func TestFirstErrorOfDivisions(t *testing.T) {
	wrong := fileRegion()
	wrong.Flags = 2
	outside := fileRegion()
	outside.Start = 507
	for _, x := range []struct {
		r           api.Region
		page, count int
		want        int
	}{
		{wrong, -1, 0, api.ErrArg}, {outside, -1, 0, api.ErrRange}, {outside, 508, 1, api.ErrRange},
		{fileRegion(), -1, 0, api.ErrArg}, {fileRegion(), 512, 0, api.ErrArg}, {fileRegion(), 5, math.MinInt, api.ErrArg},
		{fileRegion(), -1, 1, api.ErrRange}, {fileRegion(), 512, 1, api.ErrRange}, {fileRegion(), 511, 1, api.OK},
		{fileRegion(), 1, 512, api.ErrRange}, {fileRegion(), 0, 512, api.OK}, {fileRegion(), math.MaxInt, math.MaxInt, api.ErrRange},
	} {
		if got, e := Cut(x.r, x.page, x.count); e != x.want || e != api.OK && len(got) != 0 {
			t.Errorf("Cut(%v, %d, %d) = %v, %d, want %d", x.r, x.page, x.count, got, e, x.want)
		}
	}
	if lower, upper, e := Split(wrong, 5); lower != (api.Region{}) || upper != (api.Region{}) || e != api.ErrArg {
		t.Errorf("Split of a region that is not valid = %v, %v, %d", lower, upper, e)
	}
	for _, page := range []int{math.MinInt, 3, 4, 10, 11, math.MaxInt} {
		if lower, upper, e := Split(fileRegion(), page); lower != (api.Region{}) || upper != (api.Region{}) || e != api.ErrRange {
			t.Errorf("Split at %d = %v, %v, %d", page, lower, upper, e)
		}
	}
}

// randomRegion returns a valid region.
func randomRegion(random *rand.Rand) api.Region {
	r := api.Region{Prot: 1 + 2*random.Intn(2), Flags: random.Intn(8) * 2, File: -1}
	longest := 512
	if random.Intn(2) == 0 {
		r.File = random.Intn(4)
		r.Flags = []int{0, 1, 4, 5}[random.Intn(4)]
		r.Index = random.Intn(16)
		longest = 16 - r.Index
	}
	r.Pages = 1 + random.Intn(longest)
	r.Start = random.Intn(513 - r.Pages)
	return r
}

// expectParts checks that parts contain exactly the pages of a region that are kept, each once, with the page of the file that the region shows there.
func expectParts(t *testing.T, r api.Region, parts []api.Region, kept func(page int) bool) {
	t.Helper()
	for page := -1; page <= 512; page++ {
		in := 0
		for _, p := range parts {
			if !Has(p, page) {
				continue
			}
			in++
			if Page(p, page) != Page(r, page) || Permits(p, true) != Permits(r, true) {
				t.Fatalf("page %d of %v is another one in %v", page, r, p)
			}
		}
		want := 0
		if Has(r, page) && kept(page) {
			want = 1
		}
		if in != want {
			t.Fatalf("page %d of %v is in %d of %v", page, r, in, parts)
		}
	}
}

// P22.6: the parts of a region are mergeable to it unless it grows, and show its pages.
func TestRestored(t *testing.T) {
	random := rand.New(rand.NewSource(1))
	met := map[bool]int{}
	for range 3000 {
		r := randomRegion(random)
		if e := Check(r); e != api.OK {
			t.Fatalf("Check(%v) = %d", r, e)
		}
		page := r.Start + random.Intn(r.Pages+1)
		lower, upper, e := Split(r, page)
		if e != api.OK {
			continue
		}
		expectParts(t, r, []api.Region{lower, upper}, func(int) bool { return true })
		grows := r.Flags&api.FlagGrows != 0
		met[grows]++
		if Mergeable(lower, upper) == grows || Mergeable(upper, lower) {
			t.Fatalf("the parts %v and %v of %v: mergeable or not", lower, upper, r)
		}
		if back, e := Merge(lower, upper); !grows && (back != r || e != api.OK) {
			t.Fatalf("%v and %v merged: %v, %d, want %v", lower, upper, back, e, r)
		}
	}
	if met[true] < 500 || met[false] < 500 {
		t.Errorf("too few cases: %v", met)
	}
}

// P22.6: each page of a region was cut out or is in exactly one part.
func TestLeft(t *testing.T) {
	random := rand.New(rand.NewSource(2))
	met := map[int]int{}
	for range 3000 {
		r := randomRegion(random)
		page := min(511, max(0, r.Start-3+random.Intn(r.Pages+6)))
		count := 1 + random.Intn(min(512-page, r.Pages+3))
		left, e := Cut(r, page, count)
		if e != api.OK {
			t.Fatalf("Cut(%v, %d, %d) = %d", r, page, count, e)
		}
		expectCut(t, r, page, count)
		expectParts(t, r, left, func(at int) bool { return at < page || at >= page+count })
		met[len(left)]++
	}
	if met[0] < 100 || met[1] < 100 || met[2] < 100 {
		t.Errorf("too few cases: %v", met)
	}
}

// The rule 'Values': the list of Cut is its own.
func TestListsAreNew(t *testing.T) {
	for _, count := range []int{1, 2} {
		first, _ := Cut(fileRegion(), 3, count)
		second, _ := Cut(fileRegion(), 3, count)
		want := slices.Clone(second)
		first = first[:cap(first)]
		clear(first)
		if !slices.Equal(second, want) {
			t.Errorf("a list changes with another one: %v, want %v", second, want)
		}
	}
}

// The examples of the chapter.
func TestExamples(t *testing.T) {
	r := fileRegion()
	if e, page := Check(r), Page(r, 7); e != api.OK || page != 8 {
		t.Errorf("Check = %d, Page = %d", e, page)
	}
	lower, upper, e := Split(r, 7)
	if lower != (api.Region{Start: 4, Pages: 3, Prot: 3, Flags: 1, File: 2, Index: 5}) || upper != (api.Region{Start: 7, Pages: 3, Prot: 3, Flags: 1, File: 2, Index: 8}) || e != api.OK {
		t.Errorf("Split = %v, %v, %d", lower, upper, e)
	}
	if back, e := Merge(lower, upper); !Mergeable(lower, upper) || Mergeable(upper, lower) || back != r || e != api.OK {
		t.Errorf("Merge = %v, %d", back, e)
	}
	for _, x := range []struct {
		page, count int
		want        []api.Region
	}{
		{0, 5, []api.Region{{Start: 5, Pages: 5, Prot: 3, Flags: 1, File: 2, Index: 6}}},
		{5, 2, []api.Region{{Start: 4, Pages: 1, Prot: 3, Flags: 1, File: 2, Index: 5}, {Start: 7, Pages: 3, Prot: 3, Flags: 1, File: 2, Index: 8}}},
		{4, 6, nil},
		{10, 2, []api.Region{r}},
		{0, 4, []api.Region{r}},
	} {
		if got, e := Cut(r, x.page, x.count); !slices.Equal(got, x.want) || e != api.OK {
			t.Errorf("Cut(%d, %d) = %v, %d", x.page, x.count, got, e)
		}
	}
	lower, upper, e = Split(stack(), 505)
	if lower != (api.Region{Start: 500, Pages: 5, Prot: 1, Flags: 2, File: -1}) || upper != (api.Region{Start: 505, Pages: 7, Prot: 1, File: -1}) || e != api.OK {
		t.Errorf("Split of a growing region = %v, %v, %d", lower, upper, e)
	}
	if e := Check(api.Region{Start: 500, Pages: 13, Prot: 1, File: -1}); e != api.ErrRange {
		t.Errorf("Check of a region behind the end = %d", e)
	}
	if e := Check(api.Region{Start: 0, Pages: 1, Prot: 2, File: -1}); e != api.ErrArg {
		t.Errorf("Check of a region that cannot be read = %d", e)
	}
}
