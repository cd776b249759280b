package percpu

import (
	"math"
	"math/rand"
	"slices"
	"testing"

	"estovers/api"
)

// counts are numbers of zones, zones, and numbers that are none.
func counts() []int {
	return []int{math.MinInt, -1 << 32, -1, 0, 1, 2, 3, 4, 5, 6, 7, 1 << 32, math.MaxInt - 1, math.MaxInt}
}

// frames are frames of the machine, and numbers that are none.
func frames() []int { return []int{math.MinInt, -1, 0, 7, 9, 255, 256, math.MaxInt} }

// zones are zones of a cache for two of them, and numbers that are none.
func zones() []int { return []int{math.MinInt, -1, 0, 1, 2, math.MaxInt} }

// sizes are values of batch and high.
func sizes() []int { return []int{math.MinInt, -1, 0, 1, 2, 3, 4, 5, math.MaxInt} }

// actions are calls with all combinations of these arguments.
func actions() []action {
	var out []action
	for _, zone := range zones() {
		out = append(out, takeAction(zone), drainAction(zone))
		for _, frame := range frames() {
			for _, batch := range sizes() {
				for _, high := range sizes() {
					out = append(out, putAction(zone, frame, batch, high))
				}
			}
		}
		for _, list := range refills() {
			out = append(out, refillAction(zone, list))
		}
	}
	return out
}

// refills are all lists of at most three of these frames.
func refills() [][]int {
	out := [][]int{nil}
	for from := 0; len(out[from]) < 3; from++ {
		for _, frame := range []int{-1, 0, 7, 9, 10, 256} {
			out = append(out, append(slices.Clone(out[from]), frame))
		}
	}
	return out
}

// smallCaches are all caches for one or two zones with the frames 0, 7 and 255, each of them once at most.
func smallCaches() []api.CpuCache {
	orders := [][]int{nil}
	for from := 0; from < len(orders); from++ {
		for _, frame := range []int{0, 7, 255} {
			if !slices.Contains(orders[from], frame) {
				orders = append(orders, append(slices.Clone(orders[from]), frame))
			}
		}
	}
	var out []api.CpuCache
	for _, all := range orders {
		out = append(out, api.CpuCache{Lists: [][]int{all}})
		for i := range len(all) + 1 {
			out = append(out, api.CpuCache{Lists: [][]int{all[:i], all[i:]}})
		}
	}
	return out
}

// P14.1: New.
func TestNew(t *testing.T) {
	for _, n := range counts() {
		got, e := New(n)
		want, wantError := api.CpuCache{}, api.ErrArg
		if n >= 1 && n <= 6 {
			want, wantError = api.CpuCache{Lists: make([][]int, n)}, api.OK
		}
		if e != wantError || !same(got, want) {
			t.Errorf("New(%d) = %v, %d", n, got, e)
		}
		expectLooks(t, got)
	}
}

// P14.1: all functions, for small caches and all arguments.
func TestSmallCaches(t *testing.T) {
	all := actions()
	for _, c := range smallCaches() {
		expectLooks(t, c)
		for _, a := range all {
			expect(t, c, a)
		}
	}
}

type fault struct {
	what  string
	lists [][]int
	want  int
}

// faults are caches with the results of Check for their numbers of lists.
func faults() []fault {
	return []fault{
		{"no lists", nil, api.ErrArg},
		{"seven lists", make([][]int, 7), api.ErrArg},
		{"seven lists, and no frame", append(make([][]int, 6), []int{256}), api.ErrArg},
		{"six lists", append(make([][]int, 5), []int{255, 0}), api.OK},
		{"empty lists", make([][]int, 2), api.OK},
		{"frame -1", [][]int{{3, -1}, {4}}, api.ErrRange},
		{"frame 256", [][]int{{3}, {4, 256}}, api.ErrRange},
		{"the least frame", [][]int{{math.MinInt}, {4}}, api.ErrRange},
		{"the greatest frame", [][]int{{}, {math.MaxInt}}, api.ErrRange},
		{"twice in a list", [][]int{{3, 4, 3}, {5}}, api.ErrExist},
		{"in two lists", [][]int{{3, 4}, {}, {5, 4}}, api.ErrExist},
		{"twice, then no frame", [][]int{{3, 3}, {-1}}, api.ErrRange},
		{"no frame twice", [][]int{{300}, {300}}, api.ErrRange},
	}
}

// P14.1: caches that are not valid.
func TestFaults(t *testing.T) {
	for _, one := range faults() {
		c := api.CpuCache{Lists: one.lists}
		if got := Check(c, len(one.lists)); got != one.want {
			t.Errorf("%s: Check = %d, want %d", one.what, got, one.want)
		}
		expectLooks(t, c)
		for _, zone := range counts() {
			expect(t, c, takeAction(zone))
			expect(t, c, drainAction(zone))
			for _, frame := range []int{-1, 3, 100} {
				expect(t, c, putAction(zone, frame, 1, 2))
				expect(t, c, putAction(zone, frame, 3, 2))
				expect(t, c, refillAction(zone, []int{100, frame}))
			}
		}
	}
	if e := Check(api.CpuCache{Lists: [][]int{{-1, -1}, {}}}, 3); e != api.ErrForm {
		t.Errorf("Check of two lists for three zones = %d", e)
	}
	if e := Check(api.CpuCache{Lists: [][]int{{-1, -1}, {}}}, 0); e != api.ErrArg {
		t.Errorf("Check of two lists for no zones = %d", e)
	}
}

// P14.1: which error comes first.
func TestFirstError(t *testing.T) {
	c := api.CpuCache{Lists: [][]int{{7}, {4}}}
	for _, x := range []struct {
		a    action
		want int
	}{
		{takeAction(2), api.ErrRange},
		{takeAction(-1), api.ErrRange},
		{drainAction(2), api.ErrRange},
		{putAction(2, 7, 2, 1), api.ErrRange},
		{putAction(0, 256, 2, 1), api.ErrRange},
		{putAction(0, 7, 2, 1), api.ErrArg},
		{putAction(0, 7, 0, 1), api.ErrArg},
		{putAction(0, 7, 1, 0), api.ErrArg},
		{putAction(0, 7, 1, 1), api.ErrExist},
		{putAction(0, 4, 1, 1), api.ErrExist},
		{putAction(0, 5, 1, 1), api.OK},
		{refillAction(2, []int{7}), api.ErrRange},
		{refillAction(0, []int{5, 4, 256}), api.ErrExist},
		{refillAction(0, []int{5, 256, 4}), api.ErrRange},
		{refillAction(0, []int{5, 5, -1}), api.ErrExist},
		{refillAction(0, []int{5, 6}), api.OK},
		{refillAction(1, nil), api.OK},
	} {
		if got := expect(t, c, x.a); got.e != x.want {
			t.Errorf("%s has the error %d, want %d", x.a.what, got.e, x.want)
		}
	}
	if _, _, e := Take(api.CpuCache{Lists: [][]int{{7}, {}}}, 1); e != api.ErrNone {
		t.Errorf("Take of an empty list has the error %d", e)
	}
}

// P14.1: lists that are very long.
func TestLongLists(t *testing.T) {
	var all []int
	for frame := range 256 {
		all = append(all, (frame*77+5)%256)
	}
	full := api.CpuCache{Lists: [][]int{nil, all}}
	expectLooks(t, full)
	expect(t, full, takeAction(1))
	expect(t, full, drainAction(1))
	expect(t, full, putAction(0, 3, 1, 1))
	expect(t, full, refillAction(0, []int{3}))
	expect(t, api.CpuCache{Lists: [][]int{nil, {}}}, refillAction(1, all))
	expect(t, api.CpuCache{Lists: [][]int{nil, all[1:]}}, putAction(1, all[0], 255, 255))
	expect(t, api.CpuCache{Lists: [][]int{nil, all[1:]}}, putAction(1, all[0], 1, 256))
	twice := api.CpuCache{Lists: [][]int{slices.Repeat([]int{7}, 1<<20)}}
	if e := Check(twice, 1); e != api.ErrExist {
		t.Errorf("Check = %d", e)
	}
	if _, e := Refill(full, 0, slices.Repeat([]int{7}, 1<<20)); e != api.ErrExist {
		t.Errorf("Refill has the error %d", e)
	}
}

// P14.1: random sequences of calls.
func TestRandomSequences(t *testing.T) {
	random := rand.New(rand.NewSource(1))
	seen := map[int]int{}
	for range 100 {
		n := 1 + random.Intn(6)
		c, e := New(n)
		if e != api.OK {
			t.Fatalf("New(%d) has the error %d", n, e)
		}
		high := 1 + random.Intn(8)
		batch := 1 + random.Intn(high)
		for range 100 {
			got := expect(t, c, randomAction(random, n, batch, high))
			seen[got.e]++
			if got.e == api.OK {
				c = got.c
			}
		}
		expectLooks(t, c)
	}
	for _, e := range []int{api.OK, api.ErrRange, api.ErrArg, api.ErrExist, api.ErrNone} {
		if seen[e] < 20 {
			t.Errorf("the result %d occurred %d times", e, seen[e])
		}
	}
}

// randomAction returns a call for a cache with n lists, in most cases one without an error.
func randomAction(random *rand.Rand, n, batch, high int) action {
	zone, frame := random.Intn(n), random.Intn(257)
	switch random.Intn(30) {
	case 0:
		zone = n
	case 1:
		batch = high + 1
	}
	switch random.Intn(12) {
	case 0:
		return drainAction(zone)
	case 1:
		return refillAction(zone, append(random.Perm(256)[:random.Intn(high)], frame))
	case 2, 3, 4:
		return takeAction(zone)
	}
	return putAction(zone, frame, batch, high)
}

// P14.2: what has been added is in the lists, was taken, or was given back.
func TestNothingIsLost(t *testing.T) {
	random := rand.New(rand.NewSource(3))
	c, _ := New(2)
	var inside [256]int // how often a frame was added, less how often it came back
	for range 3000 {
		var in, out []int
		next, e := c, api.OK
		zone := random.Intn(2)
		switch random.Intn(12) {
		case 0:
			next, out, e = Drain(c, zone)
		case 1:
			in = random.Perm(256)[:3]
			next, e = Refill(c, zone, in)
		case 2, 3, 4:
			out = []int{0}
			next, out[0], e = Take(c, zone)
		default:
			in = []int{random.Intn(256)}
			next, out, e = Put(c, zone, in[0], 3, 5)
		}
		if e != api.OK {
			continue
		}
		c = next
		for _, frame := range in {
			inside[frame]++
		}
		for _, frame := range out {
			inside[frame]--
		}
		for frame, n := range inside {
			if number(c, frame) != n {
				t.Fatalf("frame %d should be in %v %d times", frame, c, n)
			}
		}
	}
}

// P14.2: frames that are put and not given back are taken in the opposite order.
func TestOppositeOrder(t *testing.T) {
	random := rand.New(rand.NewSource(2))
	for range 300 {
		c, _ := New(2)
		c, _ = Refill(c, 0, []int{254, 255})
		high := 1 + random.Intn(9)
		batch := 1 + random.Intn(high)
		var rest []int
		for _, frame := range random.Perm(250)[:random.Intn(30)] {
			next, back, e := Put(c, 1, frame, batch, high)
			rest = slices.DeleteFunc(append(rest, frame), func(frame int) bool { return slices.Contains(back, frame) })
			if e != api.OK || Count(next, 1) > high {
				t.Fatalf("Put(%v, 1, %d, %d, %d) = %v, %v, %d", c, frame, batch, high, next, back, e)
			}
			c = next
		}
		for _, want := range slices.Backward(rest) {
			next, frame, e := Take(c, 1)
			if frame != want || e != api.OK {
				t.Fatalf("Take(%v, 1) = %d, %d, want %d", c, frame, e, want)
			}
			c = next
		}
		if Count(c, 1) != 0 || Count(c, 0) != 2 {
			t.Fatalf("%v is left", c)
		}
	}
}

// P14.2: a list that has at most high frames has at most high frames after Put; a longer one loses just one batch.
func TestHigh(t *testing.T) {
	for _, c := range smallCaches() {
		for high := 1; high <= 5; high++ {
			for batch := 1; batch <= high; batch++ {
				before := len(c.Lists[0])
				got := expect(t, c, putAction(0, 100, batch, high))
				after := Count(got.c, 0)
				if before <= high && after > high || before >= high && after != before+1-batch || after+len(got.back) != before+1 {
					t.Fatalf("Put(%v, 0, 100, %d, %d) = %v", c, batch, high, got)
				}
			}
		}
	}
}

// mark is what the tests put behind the lists of an argument.
const mark = 9999

// withMarks returns a copy with spare capacity behind its lists.
func withMarks(c api.CpuCache) api.CpuCache {
	c = deepCopy(c)
	c.Lists = append(c.Lists, []int{mark})[:len(c.Lists)]
	for i, l := range c.Lists {
		c.Lists[i] = append(l, mark)[:len(l)]
	}
	return c
}

// areMarked reports whether c is equal to want, with the marks in their places.
func areMarked(c, want api.CpuCache) bool {
	for _, l := range c.Lists {
		if l[:len(l)+1][len(l)] != mark {
			return false
		}
	}
	behind := c.Lists[:len(c.Lists)+1][len(c.Lists)]
	return slices.Equal(behind, []int{mark}) && same(c, want)
}

// overwrite changes everything in a list, and behind it.
func overwrite(l []int) {
	l = l[:cap(l)]
	for i := range l {
		l[i] = 77
	}
}

func overwriteAll(c api.CpuCache) {
	for i, l := range c.Lists {
		overwrite(l)
		c.Lists[i] = []int{77}
	}
}

// Rule 'Values'.
func TestArgumentsStay(t *testing.T) {
	for _, c := range []api.CpuCache{{Lists: [][]int{{1, 7, 2}, {3, 4}}}, {Lists: [][]int{{1, 7, 2}, {3, 1}}}} {
		for _, a := range actions() {
			argument := withMarks(c)
			got := a.do(argument, a.zone)
			if !areMarked(argument, c) {
				t.Fatalf("%s: the argument has changed", a.what)
			}
			want := outcome{deepCopy(got.c), got.frame, slices.Clone(got.back), got.e}
			overwriteAll(argument)
			if !got.same(want) {
				t.Fatalf("%s: the result changes with the argument", a.what)
			}
			argument = withMarks(c)
			got = a.do(argument, a.zone)
			overwrite(got.back)
			overwriteAll(got.c)
			if !areMarked(argument, c) {
				t.Fatalf("%s: the argument changes with the result", a.what)
			}
		}
		argument := withMarks(c)
		Check(argument, 2)
		Count(argument, 1)
		if !areMarked(argument, c) {
			t.Fatal("a function that looks at a cache has changed it")
		}
	}
}

// Rule 'Values': the frames of Refill.
func TestFramesStay(t *testing.T) {
	list := []int{5, 6, 8, mark}
	got, e := Refill(api.CpuCache{Lists: [][]int{{}, {3}}}, 0, list[:3])
	if e != api.OK || !slices.Equal(list, []int{5, 6, 8, mark}) {
		t.Fatalf("Refill has changed its argument to %v: %d", list, e)
	}
	overwrite(list)
	if !same(got, api.CpuCache{Lists: [][]int{{8, 6, 5}, {3}}}) {
		t.Error("the result of Refill changes with its argument")
	}
	overwriteAll(got)
	if !slices.Equal(list, []int{77, 77, 77, 77}) {
		t.Error("the argument of Refill changes with its result")
	}
}

// Rule 'Values': what is appended to a list of a result is in no other list of it.
func TestListsAreApart(t *testing.T) {
	c := api.CpuCache{Lists: [][]int{{1, 7, 2}, {3, 4}}}
	for _, a := range append(actions(), action{what: "New", do: func(api.CpuCache, int) outcome {
		c, e := New(3)
		return outcome{c: c, e: e}
	}}) {
		got := a.do(c, a.zone)
		want := outcome{deepCopy(got.c), got.frame, slices.Clone(got.back), got.e}
		overwrite(got.back)
		got.back = want.back
		for i, l := range got.c.Lists {
			if !got.same(want) {
				t.Fatalf("%s: lists of the results share memory", a.what)
			}
			overwrite(l)
			got.c.Lists[i] = want.c.Lists[i]
		}
		if !got.same(want) {
			t.Fatalf("%s: lists of the results share memory", a.what)
		}
	}
}

// The examples of the chapter.
func TestExamples(t *testing.T) {
	c, _ := New(2)
	put := func(frame int, wantBack, want []int) {
		t.Helper()
		next, back, e := Put(c, 1, frame, 2, 3)
		if e != api.OK || !slices.Equal(back, wantBack) || !same(next, api.CpuCache{Lists: [][]int{nil, want}}) {
			t.Errorf("Put(%v, 1, %d, 2, 3) = %v, %v, %d", c, frame, next, back, e)
		}
		c = next
	}
	put(7, nil, []int{7})
	put(4, nil, []int{7, 4})
	put(9, nil, []int{7, 4, 9})
	put(5, []int{7, 4}, []int{9, 5})
	c, frame, e := Take(c, 1)
	if frame != 5 || e != api.OK {
		t.Errorf("the first Take = %d, %d", frame, e)
	}
	c, e = Refill(c, 1, []int{2, 3})
	if e != api.OK || !same(c, api.CpuCache{Lists: [][]int{nil, {9, 3, 2}}}) {
		t.Errorf("Refill = %v, %d", c, e)
	}
	if _, frame, e = Take(c, 1); frame != 2 || e != api.OK {
		t.Errorf("the second Take = %d, %d", frame, e)
	}
}
