package writeback

import (
	"math"
	"math/rand"
	"slices"
	"testing"

	"estovers/api"
)

// limits are the limits of int and of the machine, and the numbers beside them.
func limits() []int {
	return []int{math.MinInt, math.MinInt + 1, -1 << 32, -17, -16, -4, -2, -1, 0, 1, 2, 3, 4, 5, 7, 8, 14, 15, 16, 17, 63, 64, 65, 1<<20 + 1, 1 << 32, math.MaxInt - 16, math.MaxInt - 1, math.MaxInt}
}

// chapter returns the pages of the examples of the chapter.
func chapter() []api.DirtyPage {
	return []api.DirtyPage{{File: 0, Index: 3, Since: 20}, {File: 0, Index: 2, Since: 25}, {File: 1, Index: 0, Since: 20}, {File: 0, Index: 4, Since: 30}}
}

// every returns all pages that a machine can have, not in order.
func every() []api.DirtyPage {
	var l []api.DirtyPage
	for i := range allPages {
		at := (i*37 + 11) % allPages
		l = append(l, api.DirtyPage{File: at % files, Index: at / files, Since: i * 5 % 9})
	}
	return l
}

// pagesOf returns the pages of a file whose bits are set in a mask.
func pagesOf(file, mask int) []api.DirtyPage {
	var l []api.DirtyPage
	for index := range capacity {
		if mask>>index&1 == 1 {
			l = append(l, api.DirtyPage{File: file, Index: index, Since: index * 7 % 5})
		}
	}
	return l
}

// randomList returns a valid list: of each file some pages, often neighbours.
func randomList(random *rand.Rand) []api.DirtyPage {
	var l []api.DirtyPage
	for file := range files {
		rare := 1 + random.Intn(6)
		for index := range capacity {
			if random.Intn(rare) == 0 {
				l = append(l, api.DirtyPage{File: file, Index: index, Since: random.Intn(12)})
			}
		}
	}
	random.Shuffle(len(l), func(i, j int) { l[i], l[j] = l[j], l[i] })
	return l[:len(l)-random.Intn(len(l)+1)/2]
}

// lists calls f for all lists of a length of these pages; f may not keep them.
func lists(length int, pages []api.DirtyPage, f func(l []api.DirtyPage)) {
	l := make([]api.DirtyPage, length)
	var fill func(at int)
	fill = func(at int) {
		if at == length {
			f(l)
			return
		}
		for _, p := range pages {
			l[at] = p
			fill(at + 1)
		}
	}
	fill(0)
}

// few are pages that differ in all ways, also some that cannot be.
func few() []api.DirtyPage {
	return []api.DirtyPage{
		{File: 0, Index: 0, Since: 1}, {File: 0, Index: 1, Since: 1}, {File: 1, Index: 0, Since: 1}, {File: 0, Index: 0, Since: 2},
		{File: 0, Index: 2}, {File: 3, Index: 15, Since: 5}, {File: 0, Index: 3, Since: 2},
		{File: -1}, {Index: -1}, {Since: -1}, {File: 4}, {Index: 16},
	}
}

// P31.1: all functions, for all lists of up to four of some pages, valid and not.
func TestShortLists(t *testing.T) {
	seen := map[int]int{}
	for length := range 5 {
		lists(length, few(), func(l []api.DirtyPage) {
			seen[expectList(t, l)]++
			expectExpired(t, l, 3, 1)
			expectExpired(t, l, -1, 0)
			expectRuns(t, l, 2)
			expectRuns(t, l, 0)
			expectWritten(t, l, api.DirtyRun{Count: 2})
			expectWritten(t, l, api.DirtyRun{File: 1, Count: 1})
			expectWritten(t, l, api.DirtyRun{})
		})
	}
	for _, e := range []int{api.OK, api.ErrRange, api.ErrExist} {
		if seen[e] < 500 {
			t.Errorf("too few cases: %v", seen)
		}
	}
}

// P31.1: Check, for numbers of all magnitudes, alone and behind a valid page.
func TestCheckLimits(t *testing.T) {
	valid := 0
	for _, file := range limits() {
		for _, index := range limits() {
			for _, since := range limits() {
				p := api.DirtyPage{File: file, Index: index, Since: since}
				if expectList(t, []api.DirtyPage{p}) == api.OK {
					valid++
				}
				expectList(t, []api.DirtyPage{{File: 2, Index: 5, Since: 3}, p})
			}
		}
	}
	if valid != 4*10*20 {
		t.Errorf("%d pages are valid", valid)
	}
}

// P31.1: Check, literally; a number that is out of range comes before a page that is there twice.
func TestCheck(t *testing.T) {
	for _, x := range []struct {
		what string
		l    []api.DirtyPage
		want int
	}{
		{"no pages", nil, api.OK},
		{"an empty list", []api.DirtyPage{}, api.OK},
		{"the first page", []api.DirtyPage{{}}, api.OK},
		{"the last page, as late as possible", []api.DirtyPage{{File: 3, Index: 15, Since: math.MaxInt}}, api.OK},
		{"file -1", []api.DirtyPage{{File: -1}}, api.ErrRange},
		{"file 4", []api.DirtyPage{{File: 4}}, api.ErrRange},
		{"index -1", []api.DirtyPage{{Index: -1}}, api.ErrRange},
		{"index 16", []api.DirtyPage{{Index: 16}}, api.ErrRange},
		{"since -1", []api.DirtyPage{{Since: -1}}, api.ErrRange},
		{"the same page twice", []api.DirtyPage{{File: 1, Index: 2, Since: 3}, {File: 1, Index: 2, Since: 3}}, api.ErrExist},
		{"a page at two times", []api.DirtyPage{{File: 1, Index: 2, Since: 3}, {}, {File: 1, Index: 2, Since: 4}}, api.ErrExist},
		{"the same index of two files", []api.DirtyPage{{File: 1, Index: 2}, {File: 2, Index: 2}}, api.OK},
		{"two pages of a file", []api.DirtyPage{{File: 1, Index: 2}, {File: 1, Index: 1}}, api.OK},
		{"a page twice, and behind it one that cannot be", []api.DirtyPage{{}, {}, {File: 4}}, api.ErrRange},
		{"a page twice that cannot be", []api.DirtyPage{{Index: 16}, {Index: 16}}, api.ErrRange},
		{"all pages", every(), api.OK},
		{"all pages, and one of them again", append(every(), api.DirtyPage{File: 3, Index: 15, Since: 77}), api.ErrExist},
		{"many pages", make([]api.DirtyPage, 1<<16), api.ErrExist},
		{"many pages, the last one cannot be", append(make([]api.DirtyPage, 1<<16), api.DirtyPage{Since: -1}), api.ErrRange},
	} {
		if got := Check(x.l); got != x.want {
			t.Errorf("%s: Check = %d", x.what, got)
		}
	}
}

// P31.1: the errors of all functions, and what comes beside them.
func TestFirstError(t *testing.T) {
	for _, x := range []struct {
		l    []api.DirtyPage
		want int
	}{
		{[]api.DirtyPage{{File: 4}}, api.ErrRange}, {[]api.DirtyPage{{Since: -1}}, api.ErrRange}, {[]api.DirtyPage{{}, {}}, api.ErrExist},
		{append(chapter(), chapter()[0]), api.ErrExist}, {append(chapter(), api.DirtyPage{Index: 16}), api.ErrRange},
	} {
		if at := Next(x.l); at != -1 {
			t.Errorf("Next(%v) = %d", x.l, at)
		}
		if got, e := Order(x.l); len(got) != 0 || e != x.want {
			t.Errorf("Order(%v) = %v, %d", x.l, got, e)
		}
		for _, n := range []int{-1, 0, 1, 99} {
			if got, e := Expired(x.l, n, 0); len(got) != 0 || e != x.want {
				t.Errorf("Expired(%v, %d, 0) = %v, %d", x.l, n, got, e)
			}
			if got, e := Expired(x.l, 0, n); len(got) != 0 || e != x.want {
				t.Errorf("Expired(%v, 0, %d) = %v, %d", x.l, n, got, e)
			}
			if got, e := Runs(x.l, n); len(got) != 0 || e != x.want {
				t.Errorf("Runs(%v, %d) = %v, %d", x.l, n, got, e)
			}
			for _, run := range []api.DirtyRun{{Count: n}, {File: 3, Index: 15, Count: n}} {
				if got, e := Written(x.l, run); len(got) != 0 || e != x.want {
					t.Errorf("Written(%v, %v) = %v, %d", x.l, run, got, e)
				}
			}
		}
	}
}

// P31.1: Next and Order, for equal and different times of pages in all positions.
func TestOrder(t *testing.T) {
	pages := []api.DirtyPage{{File: 2, Index: 3}, {File: 1, Index: 9}, {File: 2, Index: 2}, {File: 1, Index: 15}}
	times := []int{0, 1, 7, math.MaxInt}
	var set func(at int)
	set = func(at int) {
		if at == len(pages) {
			for first := range pages {
				expectList(t, slices.Concat(pages[first:], pages[:first]))
				expectList(t, pages[first:])
			}
			return
		}
		for _, since := range times {
			pages[at].Since = since
			set(at + 1)
		}
	}
	set(0)
	expectList(t, every())
}

// P31.1: Expired, for times of all magnitudes.
func TestExpiredLimits(t *testing.T) {
	met := map[int]int{}
	for _, now := range limits() {
		for _, age := range limits() {
			expectExpired(t, nil, now, age)
			expectExpired(t, chapter(), now, age)
			for _, since := range limits() {
				l, e := expectExpired(t, []api.DirtyPage{{Since: since}, {File: 1, Since: 8}}, now, age)
				if e == api.OK {
					met[len(l)]++
				}
			}
		}
	}
	for n := range 3 {
		if met[n] < 500 {
			t.Errorf("too few cases: %v", met)
		}
	}
}

// P31.1: Expired, literally; a page that becomes dirty later than now has not expired, at any age.
func TestExpired(t *testing.T) {
	for _, x := range []struct {
		now, age, count, want int
	}{
		{24, 5, 0, api.OK}, {25, 5, 2, api.OK}, {29, 5, 2, api.OK}, {30, 5, 3, api.OK}, {35, 5, 4, api.OK}, {20, 0, 2, api.OK}, {19, 0, 0, api.OK}, {0, 0, 0, api.OK},
		{math.MaxInt, 0, 4, api.OK}, {math.MaxInt, math.MaxInt, 0, api.OK}, {math.MaxInt, math.MaxInt - 25, 3, api.OK}, {0, math.MaxInt, 0, api.OK},
		{-1, 0, 0, api.ErrRange}, {0, -1, 0, api.ErrRange}, {30, -1, 0, api.ErrRange}, {-1, -1, 0, api.ErrRange}, {math.MinInt, 5, 0, api.ErrRange}, {5, math.MinInt, 0, api.ErrRange},
	} {
		got, e := Expired(chapter(), x.now, x.age)
		if len(got) != x.count || e != x.want {
			t.Errorf("Expired at %d with the age %d = %v, %d", x.now, x.age, got, e)
		}
	}
}

// P31.1, P31.2: the runs of all sets of pages of a file.
func TestRunsOfAllSets(t *testing.T) {
	for mask := range 1 << capacity {
		l := pagesOf(mask%files, mask)
		for _, most := range []int{1, 2 + mask%14, capacity, math.MaxInt} {
			runs, _ := expectRuns(t, l, most)
			expectGreedy(t, runs, most)
		}
	}
}

// expectGreedy checks that two runs are adjacent only if the first one is as long as possible.
func expectGreedy(t *testing.T, runs []api.DirtyRun, most int) {
	t.Helper()
	for i, r := range runs {
		if r.Count < 1 || r.Count > most {
			t.Fatalf("a run of %d pages in %v", r.Count, runs)
		}
		if i == 0 || runs[i-1].File < r.File {
			continue
		}
		before := runs[i-1]
		gap := r.Index - before.Index - before.Count
		if before.File > r.File || gap < 0 || gap == 0 && before.Count < most {
			t.Fatalf("the runs %v and %v of at most %d pages", before, r, most)
		}
	}
}

// P31.1: the last page of a file and the first page of the next one are not consecutive; numbers of all magnitudes.
func TestRunsLimits(t *testing.T) {
	for _, most := range limits() {
		for _, l := range [][]api.DirtyPage{nil, chapter(), every(), {{File: 1}, {File: 0, Index: 15}}, {{File: 3, Index: 15}}} {
			expectRuns(t, l, most)
		}
	}
	if got, e := Runs([]api.DirtyPage{{File: 1}, {File: 0, Index: 15}}, 5); len(got) != 2 || e != api.OK {
		t.Errorf("Runs of two files = %v, %d", got, e)
	}
	want := []api.DirtyRun{{Count: 16}, {File: 1, Count: 16}, {File: 2, Count: 16}, {File: 3, Count: 16}}
	if got, e := Runs(every(), math.MaxInt); !slices.Equal(got, want) || e != api.OK {
		t.Errorf("Runs of all pages = %v, %d", got, e)
	}
	for _, most := range []int{0, -1, math.MinInt} {
		if got, e := Runs(chapter(), most); len(got) != 0 || e != api.ErrRange {
			t.Errorf("Runs of at most %d pages = %v, %d", most, got, e)
		}
	}
}

// P31.1: Written, for all runs that can be, and those beside them.
func TestWrittenRuns(t *testing.T) {
	random := rand.New(rand.NewSource(1))
	samples := [][]api.DirtyPage{nil, chapter(), every(), every()[:50]}
	for range 20 {
		samples = append(samples, randomList(random))
	}
	met := map[int]int{}
	for _, l := range samples {
		for file := -1; file <= files; file++ {
			for index := -1; index <= capacity; index++ {
				for count := -1; count <= capacity+1; count++ {
					_, e := expectWritten(t, l, api.DirtyRun{File: file, Index: index, Count: count})
					met[e]++
				}
			}
		}
	}
	for _, e := range []int{api.OK, api.ErrRange, api.ErrNone} {
		if met[e] < 1000 {
			t.Errorf("too few cases: %v", met)
		}
	}
}

// P31.1: Written, for numbers of all magnitudes.
func TestWrittenLimits(t *testing.T) {
	l := every()
	for _, file := range limits() {
		for _, index := range limits() {
			for _, count := range limits() {
				expectWritten(t, l, api.DirtyRun{File: file, Index: index, Count: count})
			}
		}
	}
}

// P31.1: the errors of Written: a run that cannot be comes before a page of it that is not dirty.
func TestWrittenErrors(t *testing.T) {
	for _, x := range []struct {
		what string
		run  api.DirtyRun
		left int
		want int
	}{
		{"one page", api.DirtyRun{Index: 3, Count: 1}, 3, api.OK},
		{"three pages", api.DirtyRun{Index: 2, Count: 3}, 1, api.OK},
		{"a page before them is clean", api.DirtyRun{Index: 1, Count: 3}, 0, api.ErrNone},
		{"a page behind them is clean", api.DirtyRun{Index: 2, Count: 4}, 0, api.ErrNone},
		{"all of the file", api.DirtyRun{Count: 16}, 0, api.ErrNone},
		{"more than the file", api.DirtyRun{Count: 17}, 0, api.ErrRange},
		{"behind the end of the file", api.DirtyRun{Index: 2, Count: 15}, 0, api.ErrRange},
		{"up to the end of the file", api.DirtyRun{Index: 2, Count: 14}, 0, api.ErrNone},
		{"no pages", api.DirtyRun{Index: 2}, 0, api.ErrRange},
		{"fewer than none", api.DirtyRun{Index: 2, Count: -1}, 0, api.ErrRange},
		{"as many as there are", api.DirtyRun{Index: 2, Count: math.MaxInt}, 0, api.ErrRange},
		{"index 16", api.DirtyRun{Index: 16, Count: 1}, 0, api.ErrRange},
		{"index 16 and no pages", api.DirtyRun{Index: 16}, 0, api.ErrRange},
		{"index -1", api.DirtyRun{Index: -1, Count: 1}, 0, api.ErrRange},
		{"file 4", api.DirtyRun{File: 4, Count: 1}, 0, api.ErrRange},
		{"file -1", api.DirtyRun{File: -1, Index: 2, Count: 1}, 0, api.ErrRange},
		{"another file", api.DirtyRun{File: 1, Index: 3, Count: 1}, 0, api.ErrNone},
		{"the other file", api.DirtyRun{File: 1, Count: 1}, 3, api.OK},
		{"the last page", api.DirtyRun{File: 3, Index: 15, Count: 1}, 0, api.ErrNone},
	} {
		if got, e := Written(chapter(), x.run); len(got) != x.left || e != x.want {
			t.Errorf("%s: Written = %v, %d", x.what, got, e)
		}
	}
	if got, e := Written([]api.DirtyPage{{File: 3, Index: 15}}, api.DirtyRun{File: 3, Index: 15, Count: 1}); len(got) != 0 || e != api.OK {
		t.Errorf("Written of the last page = %v, %d", got, e)
	}
}

// P31.1: all functions, for random lists.
func TestRandomLists(t *testing.T) {
	random := rand.New(rand.NewSource(2))
	for range 3000 {
		l := randomList(random)
		if expectList(t, l) != api.OK {
			t.Fatalf("%v is not valid", l)
		}
		expectExpired(t, l, random.Intn(16), random.Intn(12))
		expectRuns(t, l, 1+random.Intn(17))
		expectWritten(t, l, api.DirtyRun{File: random.Intn(files), Index: random.Intn(capacity), Count: 1 + random.Intn(3)})
		if len(l) > 0 {
			l = append(l, l[random.Intn(len(l))])
			l[random.Intn(len(l))].Since++
			expectList(t, l)
		}
	}
}

// P31.2: taking the next page again and again gives the order of writing, in which no page became dirty later than one behind it.
func TestTakingNext(t *testing.T) {
	random := rand.New(rand.NewSource(3))
	for range 2000 {
		l := randomList(random)
		order, e := Order(l)
		if e != api.OK || len(order) != len(l) {
			t.Fatalf("Order(%v) = %v, %d", l, order, e)
		}
		rest := slices.Clone(l)
		for i, p := range order {
			at := Next(rest)
			if at < 0 || rest[at] != p {
				t.Fatalf("Next(%v) = %d, but the order is %v", rest, at, order[i:])
			}
			rest = slices.Delete(rest, at, at+1)
			if i > 0 && order[i-1].Since > p.Since {
				t.Fatalf("%v is before %v", order[i-1], p)
			}
		}
		if at := Next(rest); at != -1 {
			t.Fatalf("Next of no pages = %d", at)
		}
	}
}

// P31.2: the runs contain each page exactly once, in any order in which they are written nothing is left.
func TestWritingAllRuns(t *testing.T) {
	random := rand.New(rand.NewSource(4))
	for range 2000 {
		l, most := randomList(random), 1+random.Intn(9)
		runs, e := expectRuns(t, l, most)
		expectGreedy(t, runs, most)
		pages := 0
		random.Shuffle(len(runs), func(i, j int) { runs[i], runs[j] = runs[j], runs[i] })
		left := l
		for _, r := range runs {
			pages += r.Count
			if left, e = expectWritten(t, left, r); e != api.OK {
				t.Fatalf("the run %v of %v is not dirty any more", r, l)
			}
			if _, e = expectWritten(t, left, r); e != api.ErrNone {
				t.Fatalf("the run %v of %v is written twice", r, l)
			}
		}
		if len(left) != 0 || pages != len(l) {
			t.Fatalf("the runs %v of %v leave %v", runs, l, left)
		}
	}
}

// Rule 'Values': no argument is changed, nor what is behind it, and no result shares its memory.
func TestValues(t *testing.T) {
	random := rand.New(rand.NewSource(5))
	behind := api.DirtyPage{File: 77, Index: 78, Since: 79}
	spoil := func(l []api.DirtyPage) {
		l = l[:cap(l)]
		for i := range l {
			l[i] = behind
		}
	}
	for range 500 {
		l := append(randomList(random), behind, behind)
		l = l[:len(l)-2]
		if random.Intn(3) == 0 { // in order already
			slices.SortFunc(l, compareWriting)
		}
		before := slices.Clone(l[:len(l)+2])
		at := Next(l)
		order, _ := Order(l)
		spoil(order)
		old, _ := Expired(l, 20, random.Intn(16))
		spoil(old)
		if runs, _ := Runs(l, 3); len(runs) > 0 {
			left, _ := Written(l, runs[0])
			spoil(left)
		}
		if !slices.Equal(l[:len(l)+2], before) || Next(l) != at {
			t.Fatalf("%v has become %v", before, l[:len(l)+2])
		}
	}
}

// The examples of the chapter.
func TestExamples(t *testing.T) {
	l := chapter()
	if at := Next(l); at != 0 {
		t.Errorf("Next = %d", at)
	}
	order := []api.DirtyPage{l[0], l[2], l[1], l[3]}
	if got, e := Order(l); !slices.Equal(got, order) || e != api.OK {
		t.Errorf("Order = %v, %d", got, e)
	}
	if got, e := Expired(l, 30, 5); !slices.Equal(got, order[:3]) || e != api.OK {
		t.Errorf("Expired = %v, %d", got, e)
	}
	runs, e := Runs(l, 2)
	if !slices.Equal(runs, []api.DirtyRun{{Index: 2, Count: 2}, {Index: 4, Count: 1}, {File: 1, Count: 1}}) || e != api.OK {
		t.Fatalf("Runs = %v, %d", runs, e)
	}
	if got, e := Written(l, runs[0]); !slices.Equal(got, []api.DirtyPage{l[2], l[3]}) || e != api.OK {
		t.Errorf("Written = %v, %d", got, e)
	}
}
