package throttle

import (
	"math"
	"math/rand"
	"reflect"
	"slices"
	"testing"

	"estovers/api"
)

// limits are the limits of int and of the machine, and the numbers beside them.
func limits() []int {
	return []int{math.MinInt, math.MinInt + 1, math.MinInt / 2, -1 << 32, -256, -2, -1, 0, 1, 2, 3, 4, 7, 8, 255, 256, 257, 1<<20 - 1, 1 << 20, 1<<20 + 1, 1 << 32, math.MaxInt/2 - 1, math.MaxInt / 2, math.MaxInt/2 + 1, math.MaxInt/2 + 2, math.MaxInt - 1, math.MaxInt}
}

// frame returns a frame with what matters for the functions.
func frame(kind, phase, since int, dirty bool) api.Frame {
	return api.Frame{Kind: kind, Phase: phase, Since: since, Dirty: dirty}
}

// randomFrame returns a frame of which all fields are random, also with kinds and phases that there are not.
func randomFrame(random *rand.Rand) api.Frame {
	f := frame(api.FrameFile, random.Intn(9)-1, random.Intn(5)-2, random.Intn(3) > 0)
	if random.Intn(4) == 0 {
		f.Kind = random.Intn(10) - 1
	}
	if random.Intn(3) == 0 {
		f.Phase = api.PhaseIdle
	}
	f.Account, f.Space, f.File, f.Index = random.Intn(12)-2, random.Intn(12)-2, random.Intn(8)-2, random.Intn(20)-2
	f.Slot, f.Request, f.Target, f.Acks = random.Intn(70)-2, random.Intn(20)-2, random.Intn(260)-2, random.Intn(20)-2
	f.Out, f.Drop = random.Intn(2) == 0, random.Intn(2) == 0
	f.Maps, f.Data = make([]api.Mapping, random.Intn(3)), make([]byte, random.Intn(3))
	return f
}

// P30.1, P30.5: all kinds and phases, and numbers that are none.
func TestKindsAndPhases(t *testing.T) {
	counting, ready := 0, 0
	for _, kind := range append(limits(), 5, 6, 9) {
		for _, phase := range append(limits(), 5, 6, 9) {
			for _, dirty := range []bool{false, true} {
				f := frame(kind, phase, 3, dirty)
				expectFrames(t, []api.Frame{f})
				if Counts(f) {
					counting++
				}
				if Oldest([]api.Frame{f}) == 0 {
					ready++
				}
			}
		}
	}
	if counting != len(limits())+3+2 || ready != 1 {
		t.Errorf("%d frames count, and %d are ready", counting, ready)
	}
}

// P30.1, P30.5: frames that count and that are ready, literally.
func TestTerms(t *testing.T) {
	for _, x := range []struct {
		what          string
		f             api.Frame
		counts, ready bool
	}{
		{"dirty", frame(api.FrameFile, api.PhaseIdle, 0, true), true, true},
		{"clean", frame(api.FrameFile, api.PhaseIdle, 0, false), false, false},
		{"is read", frame(api.FrameFile, api.PhaseRead, 0, false), false, false},
		{"dirty, is read", frame(api.FrameFile, api.PhaseRead, 0, true), true, false},
		{"waits before writing", frame(api.FrameFile, api.PhaseClean, 0, false), true, false},
		{"dirty, waits before writing", frame(api.FrameFile, api.PhaseClean, 0, true), true, false},
		{"dirty, is evicted", frame(api.FrameFile, api.PhaseEvict, 0, true), true, false},
		{"is evicted", frame(api.FrameFile, api.PhaseEvict, 0, false), false, false},
		{"is written", frame(api.FrameFile, api.PhaseWrite, 0, false), true, false},
		{"dirty, is written", frame(api.FrameFile, api.PhaseWrite, 0, true), true, false},
		{"in limbo", frame(api.FrameFile, api.PhaseLimbo, 0, false), false, false},
		{"dirty, is moved", frame(api.FrameFile, api.PhaseMove, 0, true), true, false},
		{"is moved", frame(api.FrameFile, api.PhaseMove, 0, false), false, false},
		{"anonymous, dirty", frame(api.FrameAnon, api.PhaseIdle, 0, true), false, false},
		{"anonymous, is written", frame(api.FrameAnon, api.PhaseWrite, 0, true), false, false},
		{"pool, waits", frame(api.FramePool, api.PhaseClean, 0, false), false, false},
		{"target of a file's page", frame(api.FrameTarget, api.PhaseIdle, 0, true), false, false},
		{"free", api.Frame{}, false, false},
	} {
		if got := Counts(x.f); got != x.counts {
			t.Errorf("%s: Counts = %t", x.what, got)
		}
		if got := Oldest([]api.Frame{x.f}); (got == 0) != x.ready || (got == -1) == x.ready {
			t.Errorf("%s: Oldest = %d", x.what, got)
		}
	}
}

// P30.1, P30.2, P30.5: all lists of up to four frames of some kinds.
func TestSmallLists(t *testing.T) {
	choices := []api.Frame{
		frame(api.FrameFile, api.PhaseIdle, 1, true), frame(api.FrameFile, api.PhaseIdle, 2, true), frame(api.FrameFile, api.PhaseIdle, -3, true),
		frame(api.FrameFile, api.PhaseWrite, 0, true), frame(api.FrameFile, api.PhaseClean, 0, false), frame(api.FrameFile, api.PhaseIdle, 0, false),
		frame(api.FrameAnon, api.PhaseIdle, 0, true), frame(api.FrameFile, api.PhaseEvict, 0, true), frame(api.FrameFile, api.PhaseMove, 0, false),
	}
	var from func(l []api.Frame)
	from = func(l []api.Frame) {
		expectFrames(t, l)
		if len(l) < 4 {
			for _, f := range choices {
				from(append(l, f))
			}
		}
	}
	from(make([]api.Frame, 0, 4))
	expectFrames(t, nil)
}

// P30.1, P30.2, P30.5: random frames, of which all other fields are ignored.
func TestRandomLists(t *testing.T) {
	random := rand.New(rand.NewSource(1))
	none := 0
	for range 3000 {
		l := make([]api.Frame, random.Intn(12))
		for i := range l {
			l[i] = randomFrame(random)
		}
		expectFrames(t, l, limits()...)
		if Oldest(l) == -1 {
			none++
		}
	}
	if none < 200 || none > 2000 {
		t.Errorf("%d lists without a ready frame", none)
	}
}

// P30.5: times of all magnitudes, and which of several frames it is.
func TestOldest(t *testing.T) {
	for _, a := range limits() {
		for _, b := range limits() {
			for _, c := range []int{math.MinInt, -1, 0, math.MaxInt} {
				expectFrames(t, []api.Frame{{}, frame(api.FrameFile, api.PhaseIdle, a, true), frame(api.FrameFile, api.PhaseIdle, b, true), {}, frame(api.FrameFile, api.PhaseIdle, c, true)})
			}
		}
	}
	same := slices.Repeat([]api.Frame{frame(api.FrameFile, api.PhaseIdle, 7, true)}, 4)
	if got := Oldest(same); got != 0 {
		t.Errorf("Oldest of equal frames = %d", got)
	}
	same[0].Phase = api.PhaseClean
	if got := Oldest(same); got != 1 {
		t.Errorf("Oldest behind a frame that is being cleaned = %d", got)
	}
	same[3].Since = 6
	if got := Oldest(same); got != 3 {
		t.Errorf("Oldest = %d", got)
	}
	if got := Oldest(nil); got != -1 {
		t.Errorf("Oldest of no frames = %d", got)
	}
}

// P30.3: small numbers, and those at the limits.
func TestBackground(t *testing.T) {
	numbers := limits()
	for n := -3; n <= 30; n++ {
		numbers = append(numbers, n)
	}
	seen := map[bool]int{}
	for _, count := range numbers {
		for _, limit := range numbers {
			seen[expectBackground(t, count, limit)]++
		}
	}
	if seen[false] < 500 || seen[true] < 500 {
		t.Errorf("too few cases: %v", seen)
	}
	for _, x := range []struct {
		count, limit int
		want         bool
	}{
		{0, 0, false}, {1, 0, true}, {0, 1, false}, {1, 1, true}, {1, 2, false}, {2, 3, true}, {-1, 0, false}, {0, -1, false}, {5, -1, false}, {-1, -2, false},
		{math.MaxInt, math.MaxInt, true}, {math.MaxInt / 2, math.MaxInt, false}, {math.MaxInt/2 + 1, math.MaxInt, true}, {math.MinInt, 0, false}, {math.MaxInt, math.MinInt, false},
	} {
		if got := Background(x.count, x.limit); got != x.want {
			t.Errorf("Background(%d, %d) = %t", x.count, x.limit, got)
		}
	}
}

// chapter returns the accounts of the chapter's example.
func chapter() []api.Account {
	return []api.Account{{Parent: -1, Usage: 10, Max: 20}, {Parent: 0, Usage: 6, Max: 20}, {Parent: 0, Usage: 4, Max: 20}}
}

// randomTree returns a valid tree of accounts whose root has a usage.
func randomTree(random *rand.Rand, usage int) []api.Account {
	l := []api.Account{{Parent: -1, Usage: usage, Max: 1 << 20}}
	left := []int{usage}
	for range random.Intn(8) {
		parent := random.Intn(len(l))
		n := random.Intn(left[parent] + 1)
		if random.Intn(4) == 0 {
			n = left[parent]
		}
		left[parent] -= n
		l, left = append(l, api.Account{Parent: parent, Usage: n, Min: random.Intn(9), Low: random.Intn(9), Max: n + random.Intn(1<<20-n+1)}), append(left, n)
	}
	return l
}

// P30.4: small usages and limits, and accounts that there are not.
func TestShareSmall(t *testing.T) {
	met := map[int]int{}
	for first := range 9 {
		for second := range 9 {
			for total := range 18 {
				l := []api.Account{{Parent: -1, Usage: total, Max: 20}, {Parent: 0, Usage: first, Max: 20}, {Parent: total % 2, Usage: second, Max: 8}}
				for limit := -1; limit <= 20; limit++ {
					for account := -1; account <= 3; account++ {
						_, e := expectShare(t, l, limit, account)
						met[e]++
					}
				}
			}
		}
	}
	for _, e := range []int{api.OK, api.ErrRange, api.ErrNone, api.ErrState} {
		if met[e] < 1000 {
			t.Errorf("too few cases: %v", met)
		}
	}
}

// P30.4: numbers of all magnitudes.
func TestShareLimits(t *testing.T) {
	for _, usage := range []int{0, 1, 2, 3, 1<<20 - 1, 1 << 20} {
		l := []api.Account{{Parent: -1, Usage: 1 << 20, Max: 1 << 20}, {Parent: 0, Usage: usage, Max: 1 << 20}}
		low := []api.Account{{Parent: -1, Usage: usage, Max: 1 << 20}, {Parent: 0, Usage: usage, Max: 1 << 20}, {Parent: 1, Usage: usage / 2, Max: 1 << 20}}
		for _, limit := range limits() {
			for _, account := range limits() {
				expectShare(t, l, limit, account)
				expectShare(t, low, limit, account)
			}
		}
	}
	for _, n := range limits() {
		l := chapter()
		l[0].Usage = n
		expectShare(t, l, 5, 1)
		l = chapter()
		l[2].Usage = n
		expectShare(t, l, 5, 2)
		l = chapter()
		l[1].Parent = n
		expectShare(t, l, 5, 2)
		l = chapter()
		l[2].Max = n
		expectShare(t, l, 5, 2)
	}
}

// P30.4: which error comes first.
func TestFirstError(t *testing.T) {
	change := func(f func(l []api.Account)) []api.Account {
		l := chapter()
		f(l)
		return l
	}
	for _, x := range []struct {
		what           string
		l              []api.Account
		limit, account int
		share, want    int
	}{
		{"no accounts", nil, -1, -1, 0, api.ErrLimit},
		{"too many accounts", slices.Repeat(chapter()[:1], 9), -1, 9, 0, api.ErrLimit},
		{"no tree", change(func(l []api.Account) { l[2].Parent = 2 }), -1, 3, 0, api.ErrArg},
		{"a number out of range", change(func(l []api.Account) { l[1].Min = -1 }), 1<<20 + 1, 3, 0, api.ErrRange},
		{"above its Max", change(func(l []api.Account) { l[1].Max = 5 }), -1, 3, 0, api.ErrCharge},
		{"less than its children", change(func(l []api.Account) { l[0].Usage = 9 }), -1, 3, 0, api.ErrState},
		{"no limit and no account", chapter(), -1, 3, 0, api.ErrRange},
		{"too great a limit and no account", chapter(), 1<<20 + 1, -1, 0, api.ErrRange},
		{"no account", chapter(), 0, 3, 0, api.ErrNone},
		{"before the first account", chapter(), 1 << 20, -1, 0, api.ErrNone},
		{"no account, nothing used", []api.Account{{Parent: -1}}, 5, 1, 0, api.ErrNone},
		{"nothing used", []api.Account{{Parent: -1}, {Parent: 0, Max: 4}}, 5, 1, 5, api.OK},
		{"no limit", chapter(), 0, 1, 0, api.OK},
		{"greatest limit", chapter(), 1 << 20, 2, 419430, api.OK},
	} {
		if got, e := Share(x.l, x.limit, x.account); got != x.share || e != x.want {
			t.Errorf("%s: Share = %d, %d", x.what, got, e)
		}
	}
}

// P30.4, P30.6: the shares of the children add up to at most that of their parent; all shares are the limit if nothing is used.
func TestSharesOfChildren(t *testing.T) {
	random := rand.New(rand.NewSource(2))
	less := 0
	for range 3000 {
		for _, usage := range []int{0, 1, 1 + random.Intn(20), 1 + random.Intn(1<<20), 1 << 20} {
			l := randomTree(random, usage)
			limit := []int{0, random.Intn(20), random.Intn(1<<20 + 1), 1 << 20}[random.Intn(4)]
			shares := make([]int, len(l))
			sums := make([]int, len(l))
			for account, a := range l {
				share, e := expectShare(t, l, limit, account)
				if e != api.OK || usage == 0 && share != limit {
					t.Fatalf("Share(%v, %d, %d) = %d, %d", l, limit, account, share, e)
				}
				shares[account] = share
				if account > 0 {
					sums[a.Parent] += share
				}
			}
			for account := range l {
				if usage > 0 && sums[account] > shares[account] {
					t.Fatalf("the shares of the children of the account %d of %v add up to %d of %d", account, l, sums[account], shares[account])
				}
				if sums[account] > 0 && sums[account] < shares[account] {
					less++
				}
			}
		}
	}
	if less < 1000 {
		t.Errorf("only %d accounts with a share of their own", less)
	}
}

// P30.6: if pages become dirty only while it is allowed, the limit holds, whatever else happens; what Oldest names is cleaned in the order of Since.
func TestLimitHolds(t *testing.T) {
	random := rand.New(rand.NewSource(3))
	met := map[bool]int{}
	for range 300 {
		limit := random.Intn(10)
		l := make([]api.Frame, 12)
		for clock := range 60 {
			at := random.Intn(len(l))
			switch random.Intn(4) {
			case 0: // it has been written, and is used for something else
				l[at] = frame(random.Intn(8), api.PhaseIdle, 0, false)
			case 1: // it is cleaned, and perhaps written to again
				if oldest := Oldest(l); oldest >= 0 {
					l[oldest].Phase, l[oldest].Dirty = api.PhaseClean, random.Intn(2) == 0
				}
			default:
				if Allowed(l, limit) {
					l[at] = frame(api.FrameFile, api.PhaseIdle, clock/3, true)
				}
			}
			met[Allowed(l, limit)]++
			if Count(l) > limit {
				t.Fatalf("%v: %d frames count, and the limit is %d", l, Count(l), limit)
			}
		}
		expectOrder(t, l)
	}
	if met[false] < 3000 || met[true] < 3000 {
		t.Errorf("too few cases: %v", met)
	}
}

// expectOrder cleans the frames in the order of Oldest.
func expectOrder(t *testing.T, l []api.Frame) {
	t.Helper()
	before := math.MinInt
	for at := Oldest(l); at >= 0; at = Oldest(l) {
		if l[at].Since < before {
			t.Fatalf("Oldest names a frame of %d after one of %d", l[at].Since, before)
		}
		before = l[at].Since
		l[at].Dirty = false
	}
	for i, f := range l {
		if isCleanable(f) {
			t.Fatalf("Oldest never names the frame %d", i)
		}
	}
}

// P30.6: where there is no write-back in the background, one more page may become dirty.
func TestBackgroundBeforeLimit(t *testing.T) {
	for count := range 20 {
		l := slices.Repeat([]api.Frame{frame(api.FrameFile, api.PhaseIdle, 0, true)}, count)
		for limit := 1; limit <= 45; limit++ {
			if !expectBackground(t, count, limit) && !Allowed(l, limit) {
				t.Errorf("%d of %d frames: no more may become dirty, and there is no write-back", count, limit)
			}
		}
	}
}

// Rule 'Values': no argument is changed, nor what is behind it.
func TestArgumentsStay(t *testing.T) {
	random := rand.New(rand.NewSource(4))
	behind := frame(api.FrameFile, api.PhaseIdle, -99, true)
	for range 200 {
		l := make([]api.Frame, random.Intn(5), 8)
		for i := range l {
			l[i] = randomFrame(random)
		}
		l = append(l, behind)[:len(l)]
		before := slices.Clone(l[:len(l)+1])
		expectFrames(t, l)
		if !reflect.DeepEqual(l[:len(l)+1], before) {
			t.Fatalf("%v has become %v", before, l[:len(l)+1])
		}
	}
	l := append(chapter(), api.Account{Parent: 77})[:3]
	expectShare(t, l, 7, 1)
	if !slices.Equal(l[:4], append(chapter(), api.Account{Parent: 77})) {
		t.Errorf("the accounts have become %v", l[:4])
	}
}

// The examples of the chapter.
func TestExamples(t *testing.T) {
	l := []api.Frame{
		frame(api.FrameFile, api.PhaseIdle, 5, true), frame(api.FrameFile, api.PhaseWrite, 0, false),
		frame(api.FrameAnon, api.PhaseIdle, 0, true), frame(api.FrameFile, api.PhaseIdle, 3, true),
	}
	for i, want := range []bool{true, true, false, true} {
		if got := Counts(l[i]); got != want {
			t.Errorf("Counts of frame %d = %t", i, got)
		}
	}
	if got := Count(l); got != 3 {
		t.Errorf("Count = %d", got)
	}
	if got := Oldest(l); got != 3 {
		t.Errorf("Oldest = %d", got)
	}
	if Allowed(l, 3) || !Allowed(l, 4) {
		t.Error("Allowed")
	}
	if Background(2, 4) || !Background(3, 4) {
		t.Error("Background")
	}
	for account, want := range []int{7, 4, 2} {
		if got, e := Share(chapter(), 7, account); got != want || e != api.OK {
			t.Errorf("Share of account %d = %d, %d", account, got, e)
		}
	}
}
