package grant

import (
	"math"
	"math/rand"
	"slices"
	"testing"

	"estovers/accounts"
	"estovers/api"
)

// limits are the limits of int, of asks and of accounts, and the numbers beside them.
func limits() []int {
	return []int{math.MinInt, math.MinInt + 1, math.MinInt + 2*most, -1 << 32, -2*most - 1, -2 * most, -most - 1, -most, -most + 1, -2, -1, 0, 1, 2, 3, 7, 8, most - 1, most, most + 1, 2 * most, 2*most + 1, 1 << 32, math.MaxInt - 2*most, math.MaxInt - 1, math.MaxInt}
}

// chapter returns the accounts of the example of the chapter.
func chapter() []api.Account {
	return []api.Account{{Parent: -1, Usage: 4, Max: 10}, {Parent: 0, Usage: 3, Max: 5}}
}

// sample returns a tree whose own usages are 5, 4, 6, 3 and 2, and whose margins are 3, 3, 0, 2 and 2.
func sample() []api.Account {
	return []api.Account{
		{Parent: -1, Usage: 20, Max: 23},
		{Parent: 0, Usage: 9, Min: 4, Low: 5, Max: 12},
		{Parent: 0, Usage: 6, Min: 8, Low: 2, Max: 6},
		{Parent: 1, Usage: 5, Min: 7, Low: 1, Max: 7},
		{Parent: 3, Usage: 2, Max: 4},
	}
}

// asks are small asks, also some that are not valid.
func asks() []api.Ask {
	return []api.Ask{
		{Proc: 0, User: 1}, {Proc: 1, Account: 1, Kernel: 1}, {Proc: 1, Account: 4, Kernel: 2, User: 3}, {Proc: 2}, {Proc: 7, Account: math.MaxInt, Kernel: most, User: most},
		{Proc: -1, User: 1}, {Proc: 8}, {Proc: 3, Account: -1}, {Proc: 4, Kernel: -1, User: 1}, {Proc: 0, User: -1}, {Proc: 5, Kernel: most + 1}, {Proc: 6, User: most + 1},
	}
}

// tuples calls f for all lists of a length of these values; f may not keep them.
func tuples[E any](length int, values []E, f func(l []E)) {
	l := make([]E, length)
	var fill func(at int)
	fill = func(at int) {
		if at == length {
			f(l)
			return
		}
		for _, v := range values {
			l[at] = v
			fill(at + 1)
		}
	}
	fill(0)
}

// P21.1, P21.2 and P21.5: all functions of queues, for all short queues, valid and not.
func TestShortQueues(t *testing.T) {
	for length := range 4 {
		tuples(length, asks(), func(q []api.Ask) {
			expectQueue(t, q)
			for _, a := range asks() {
				expect(t, q, nil, pushAction(a))
			}
			for proc := -2; proc <= 9; proc++ {
				expect(t, q, nil, cancelAction(proc))
			}
			expect(t, q, sample(), serveAction(2, 4))
		})
	}
}

// fullQueue returns asks of all processes, not in their order.
func fullQueue() []api.Ask {
	var out []api.Ask
	for i := range 8 {
		out = append(out, api.Ask{Proc: (5*i + 3) % 8, Account: i % 5, Kernel: i % 2, User: i % 3})
	}
	return out
}

// P21.1 and P21.2: queues with an ask of each process, and more.
func TestFullQueues(t *testing.T) {
	q := fullQueue()
	if e := Check(q); e != api.OK {
		t.Fatalf("Check(%v) = %d", q, e)
	}
	for _, a := range asks() {
		expect(t, q, nil, pushAction(a))
		for i := range q {
			for length := range q {
				changed := slices.Clone(q[:length])
				expect(t, changed, nil, pushAction(a))
				changed = slices.Clone(q)
				changed[i] = a
				expectQueue(t, changed)
				expect(t, changed, nil, pushAction(asks()[0]))
			}
		}
	}
	for proc := -1; proc <= 8; proc++ {
		expect(t, q, nil, cancelAction(proc))
	}
	for _, q := range [][]api.Ask{append(fullQueue(), api.Ask{Proc: 3}), make([]api.Ask, 1<<16)} {
		if e := Check(q); e != api.ErrExist {
			t.Errorf("Check of a process with %d asks = %d", len(q), e)
		}
		q[len(q)-1].Proc = 8
		if e := Check(q); e != api.ErrRange {
			t.Errorf("Check of a process that cannot be = %d", e)
		}
	}
}

// P21.1 to P21.5: asks with numbers of all magnitudes.
func TestLimitsOfAsks(t *testing.T) {
	before := []api.Ask{{Proc: 3, Account: 4, Kernel: 1}}
	for _, n := range limits() {
		for _, m := range limits() {
			for _, a := range []api.Ask{{Proc: n, Account: m}, {Proc: n, User: m}, {Proc: n, Kernel: m}, {Account: n, Kernel: m}, {Account: n, User: m}, {Kernel: n, User: m}} {
				q := []api.Ask{a}
				expectQueue(t, q)
				expect(t, before, nil, pushAction(a))
				expect(t, q, nil, pushAction(before[0]))
				expect(t, q, nil, cancelAction(n))
				expect(t, q, sample(), serveAction(2, 3))
				expect(t, slices.Concat(before, q), sample(), serveAction(2, 3))
				expectAsk(t, a, sample(), 2, 3)
				expectAsk(t, a, sample(), math.MaxInt, math.MaxInt)
			}
		}
	}
}

// P21.3 to P21.5: supplies of all magnitudes.
func TestLimitsOfSupplies(t *testing.T) {
	greatest := []api.Account{{Parent: -1, Max: most}, {Parent: 0, Max: most}}
	for _, l := range [][]api.Account{sample(), chapter(), greatest, nil, make([]api.Account, 9), make([]api.Account, 1<<16), sample()[1:]} {
		for _, frames := range [][2]int{{0, 0}, {0, 1}, {1, 0}, {1, 1}, {2, 1}, {most, 0}, {0, most}, {most - 1, 1}, {most, 1}, {1, most}, {most, most}} {
			q := []api.Ask{{Account: 1, Kernel: frames[0], User: frames[1]}, {Proc: 1, Kernel: 1}}
			for _, normal := range limits() {
				for _, all := range limits() {
					expectAsk(t, q[0], l, normal, all)
					expect(t, q, l, serveAction(normal, all))
				}
			}
		}
	}
}

// charge adds to the usages of all accounts those of their children, and to these the margins.
func charge(l []api.Account, margins []int) []api.Account {
	for i := len(l) - 1; i >= 0; i-- {
		if i > 0 {
			l[l[i].Parent].Usage += l[i].Usage
		}
		l[i].Max = l[i].Usage + margins[i]
	}
	return l
}

// trees calls f for trees of three accounts with all small usages and margins.
func trees(f func(l []api.Account)) {
	for parent := range 2 {
		tuples(3, []int{0, 1, 3}, func(margins []int) {
			tuples(2, []int{0, 2}, func(usages []int) {
				f(charge([]api.Account{{Parent: -1}, {Parent: 0, Usage: usages[0]}, {Parent: parent, Usage: usages[1]}}, margins))
			})
		})
	}
}

// P21.3 and P21.4: all small asks, trees and supplies.
func TestSmallAsks(t *testing.T) {
	trees(func(l []api.Account) {
		for account := -1; account <= 3; account++ {
			tuples(2, []int{0, 1, 2, 4}, func(frames []int) {
				a := api.Ask{Account: account, Kernel: frames[0], User: frames[1]}
				for normal := -1; normal <= 5; normal++ {
					for all := -1; all <= 6; all++ {
						expectAsk(t, a, l, normal, all)
					}
				}
			})
		}
	})
}

// P21.5: all small queues, trees and supplies.
func TestSmallServes(t *testing.T) {
	var some []api.Ask
	for account := range 3 {
		some = append(some, api.Ask{Account: account}, api.Ask{Account: account, Kernel: 1}, api.Ask{Account: account, User: 1}, api.Ask{Account: account, Kernel: 1, User: 2})
	}
	trees(func(l []api.Account) {
		tuples(2, some, func(q []api.Ask) {
			queue := slices.Clone(q)
			queue[1].Proc = 1
			for normal := -1; normal <= 2; normal++ {
				for all := -1; all <= 4; all++ {
					expect(t, queue, l, serveAction(normal, all))
				}
			}
		})
	})
}

// randomAccounts returns a valid list of up to eight accounts, whose own usages and margins are at most size.
func randomAccounts(random *rand.Rand, size int) []api.Account {
	l := []api.Account{{Parent: -1, Usage: random.Intn(size + 1)}}
	margins := []int{random.Intn(4*size + 1)}
	for i := 1; i <= random.Intn(8); i++ {
		l = append(l, api.Account{Parent: random.Intn(i), Usage: random.Intn(size + 1)})
		margins = append(margins, random.Intn(2*size+1))
	}
	return charge(l, margins)
}

// randomQueue returns a valid queue of asks of accounts of l, with numbers that are at most size.
func randomQueue(random *rand.Rand, l []api.Account, size int) []api.Ask {
	var q []api.Ask
	for _, proc := range random.Perm(8)[:random.Intn(9)] {
		q = append(q, api.Ask{Proc: proc, Account: random.Intn(len(l)), Kernel: random.Intn(size + 1), User: random.Intn(size + 1)})
	}
	return q
}

// situation is a queue with accounts and supplies.
type situation struct {
	q           []api.Ask
	l           []api.Account
	normal, all int
}

// serve serves the queue, which must be possible.
func (s situation) serve(t *testing.T) (int, []api.Account) {
	t.Helper()
	granted, l, e := Serve(s.q, s.l, s.normal, s.all)
	if e != api.OK {
		t.Fatalf("Serve(%v) = %d", s, e)
	}
	return granted, l
}

// after returns what is left for the other asks when so many of the first ones have been granted.
func (s situation) after(granted int, l []api.Account) situation {
	for _, a := range s.q[:granted] {
		s.normal -= a.Kernel
		s.all -= a.Kernel + a.User
	}
	s.q, s.l = s.q[granted:], l
	return s
}

// situations calls f for random situations of all sizes.
func situations(seed int64, f func(s situation)) {
	random := rand.New(rand.NewSource(seed))
	for range 2000 {
		for _, size := range []int{0, 1, 3, 20, most / 16} {
			l := randomAccounts(random, size)
			f(situation{randomQueue(random, l, size/2), l, random.Intn(3*size+2) - 1, random.Intn(5*size+2) - 1})
		}
	}
}

// P21.1 to P21.5: all functions, for random queues, trees and supplies.
func TestRandom(t *testing.T) {
	met := map[int]int{}
	situations(1, func(s situation) {
		expectQueue(t, s.q)
		met[expect(t, s.q, s.l, serveAction(s.normal, s.all)).granted]++
		for _, a := range s.q {
			expectAsk(t, a, s.l, s.normal, s.all)
			expect(t, s.q, s.l, cancelAction(a.Proc))
			expect(t, s.q[1:], s.l, pushAction(a))
		}
	})
	for granted := range 9 {
		if met[granted] < 20 {
			t.Errorf("too few cases: %v", met)
		}
	}
}

// P21.6: what is granted is a beginning of the queue, is charged, and exceeds no limit; the next ask does not fit.
func TestGranted(t *testing.T) {
	situations(2, func(s situation) {
		granted, l := s.serve(t)
		sum := 0
		for _, a := range s.q[:granted] {
			sum += a.Kernel + a.User
		}
		if grown := accounts.Total(l) - accounts.Total(s.l); grown != sum {
			t.Fatalf("Serve(%v) grants %d and charges %d", s, sum, grown)
		}
		for i, x := range l {
			if x.Usage > x.Max || x.Usage < s.l[i].Usage {
				t.Fatalf("Serve(%v) charges %v", s, l)
			}
			if x.Usage = s.l[i].Usage; x != s.l[i] {
				t.Fatalf("Serve(%v) changes more than usages: %v", s, l)
			}
		}
		left := s.after(granted, l)
		if len(left.q) == 0 {
			return
		}
		if missing, e := Short(left.q[0], l, left.normal, left.all); missing.Count <= 0 || e != api.OK {
			t.Fatalf("Serve(%v) refuses an ask that is short of %v, %d", s, missing, e)
		}
	})
}

// P21.6: an ask that does not fit holds up all others.
func TestNobodyIsOvertaken(t *testing.T) {
	held := 0
	situations(3, func(s situation) {
		if len(s.q) == 0 {
			return
		}
		s.q[0].User = 2 * most / 3
		others, _ := situation{s.q[1:], s.l, s.normal, s.all}.serve(t)
		granted, l := s.serve(t)
		if granted != 0 || !slices.Equal(l, s.l) {
			t.Fatalf("Serve(%v) = %d, %v", s, granted, l)
		}
		if others > 0 && others == len(s.q)-1 {
			held++
		}
	})
	if held < 100 {
		t.Errorf("too few cases: %d", held)
	}
}

// P21.6: more supplies never grant fewer asks, nor do fewer asks in front.
func TestNoFewer(t *testing.T) {
	more := 0
	situations(4, func(s situation) {
		granted, _ := s.serve(t)
		for _, x := range [][2]int{{1, 0}, {0, 1}, {2, 3}, {most, most}} {
			richer, _ := situation{s.q, s.l, s.normal + x[0], s.all + x[1]}.serve(t)
			if richer < granted {
				t.Fatalf("Serve(%v) grants %d, and with %v more %d", s, granted, x, richer)
			}
			if richer > granted {
				more++
			}
		}
		for gone := range s.q {
			others, _ := situation{s.q[gone:], s.l, s.normal, s.all}.serve(t)
			if others < granted-gone {
				t.Fatalf("Serve(%v) grants %d, and without the first %d asks %d", s, granted, gone, others)
			}
		}
	})
	if more < 1000 {
		t.Errorf("too few cases: %d", more)
	}
}

// P21.6: a queue may be served in two parts.
func TestParts(t *testing.T) {
	situations(5, func(s situation) {
		granted, l := s.serve(t)
		for cut := range len(s.q) + 1 {
			first, charged := situation{s.q[:cut], s.l, s.normal, s.all}.serve(t)
			second, charged := s.after(first, charged).serve(t)
			if first+second != granted || !slices.Equal(charged, l) {
				t.Fatalf("Serve(%v) = %d, %v, and in parts %d and %d, %v", s, granted, l, first, second, charged)
			}
		}
	})
}

// P21.6: an ask is hopeless exactly if it does not fit the empty machine.
func TestHope(t *testing.T) {
	met := map[bool]int{}
	situations(6, func(s situation) {
		empty := slices.Clone(s.l)
		for i := range empty {
			empty[i].Usage = 0
		}
		for _, a := range s.q {
			missing, e := Short(a, empty, s.normal, s.all)
			hopeless := Hopeless(a, s.l, s.normal, s.all)
			if e != api.OK || hopeless != (missing.Count > 0) || hopeless != Hopeless(a, empty, s.normal, s.all) {
				t.Fatalf("Hopeless(%v, %v, %d, %d) = %t, and the empty machine is short of %v", a, s.l, s.normal, s.all, hopeless, missing)
			}
			met[hopeless]++
		}
	})
	if met[true] < 1000 || met[false] < 1000 {
		t.Errorf("too few cases: %v", met)
	}
}

// P21.2 to P21.5: which error comes first, with literal errors.
func TestFirstError(t *testing.T) {
	fine := []api.Ask{{Proc: 1, Account: 1}}
	twice := []api.Ask{{Proc: 1}, {Proc: 1, Account: 9}}
	wrong := []api.Ask{{Proc: 1}, {Proc: 1, Account: 9}, {Proc: 8}}
	for _, x := range []struct {
		q    []api.Ask
		a    api.Ask
		want int
	}{{wrong, api.Ask{Proc: 1}, api.ErrRange}, {twice, api.Ask{Proc: 8}, api.ErrExist}, {twice, api.Ask{}, api.ErrExist}, {fine, api.Ask{Proc: 1, Account: -1}, api.ErrRange}, {fine, api.Ask{Proc: 1}, api.ErrExist}} {
		if out, e := Push(x.q, x.a); len(out) != 0 || e != x.want {
			t.Errorf("Push(%v, %v) = %v, %d, want %d", x.q, x.a, out, e, x.want)
		}
	}
	for _, x := range []struct {
		q          []api.Ask
		proc, want int
	}{{wrong, 0, api.ErrRange}, {twice, 0, api.ErrExist}, {twice, 1, api.ErrExist}, {fine, 0, api.ErrNone}, {fine, -1, api.ErrNone}, {fine, 8, api.ErrNone}, {nil, 0, api.ErrNone}} {
		if out, e := Cancel(x.q, x.proc); len(out) != 0 || e != x.want {
			t.Errorf("Cancel(%v, %d) = %v, %d, want %d", x.q, x.proc, out, e, x.want)
		}
	}
	above := chapter()
	above[1].Usage = 6
	far := []api.Ask{{Account: 1, User: 9}, {Proc: 1, Account: 2}}
	for _, x := range []struct {
		q    []api.Ask
		l    []api.Account
		want int
	}{{wrong, nil, api.ErrRange}, {twice, above, api.ErrExist}, {far, nil, api.ErrLimit}, {far, above, api.ErrCharge}, {nil, above, api.ErrCharge}, {far, chapter(), api.ErrNone}} {
		if granted, l, e := Serve(x.q, x.l, 9, 9); granted != 0 || len(l) != 0 || e != x.want {
			t.Errorf("Serve(%v, %v) = %d, %v, %d, want %d", x.q, x.l, granted, l, e, x.want)
		}
	}
	for _, x := range []struct {
		a    api.Ask
		l    []api.Account
		want int
	}{{api.Ask{Proc: -1, Account: 2}, nil, api.ErrRange}, {api.Ask{Account: 2}, nil, api.ErrLimit}, {api.Ask{Account: 2}, above, api.ErrCharge}, {api.Ask{Account: 2}, chapter(), api.ErrNone}, {api.Ask{Account: -1}, chapter(), api.ErrRange}} {
		if missing, e := Short(x.a, x.l, -9, -9); missing != (api.Shortage{}) || e != x.want {
			t.Errorf("Short(%v, %v) = %v, %d, want %d", x.a, x.l, missing, e, x.want)
		}
		if !Hopeless(x.a, x.l, 9, 9) {
			t.Errorf("there is hope for %v of %v", x.a, x.l)
		}
	}
}

// P21.3: of several things that are missing, the first one, with literal results.
func TestFirstShortage(t *testing.T) {
	a, l := api.Ask{Account: 4, Kernel: 3, User: 1}, sample()
	for _, x := range []struct {
		widened     int // the account whose limit is raised before
		by          int
		normal, all int
		want        api.Shortage
	}{
		{4, 0, -5, -5, api.Shortage{Count: 2, Scope: 4}},
		{4, 1, 9, 9, api.Shortage{Count: 1, Scope: 4}},
		{4, 1, -5, -5, api.Shortage{Count: 2, Scope: 3}},
		{3, 2, -5, -5, api.Shortage{Count: 1, Scope: 1}},
		{1, 1, -5, -5, api.Shortage{Count: 1, Scope: 0}},
		{0, 1, -5, -5, api.Shortage{Count: 8, Scope: -1, Kernel: true}},
		{0, 0, 2, 9, api.Shortage{Count: 1, Scope: -1, Kernel: true}},
		{0, 0, math.MinInt, math.MinInt, api.Shortage{Count: most + 3, Scope: -1, Kernel: true}},
		{0, 0, -most - 1, 9, api.Shortage{Count: most + 3, Scope: -1, Kernel: true}},
		{0, 0, -most, 9, api.Shortage{Count: most + 3, Scope: -1, Kernel: true}},
		{0, 0, -most + 1, 9, api.Shortage{Count: most + 2, Scope: -1, Kernel: true}},
		{0, 0, 3, -5, api.Shortage{Count: 9, Scope: -1}},
		{0, 0, 3, 3, api.Shortage{Count: 1, Scope: -1}},
		{0, 0, 3, -most + 1, api.Shortage{Count: most + 3, Scope: -1}},
		{0, 0, 3, -most - 1, api.Shortage{Count: most + 4, Scope: -1}},
		{0, 0, 3, 4, api.Shortage{Scope: -1}},
		{0, 0, math.MaxInt, math.MaxInt, api.Shortage{Scope: -1}},
	} {
		l[x.widened].Max += x.by
		if missing, e := Short(a, l, x.normal, x.all); missing != x.want || e != api.OK {
			t.Errorf("Short(%v, %v, %d, %d) = %v, %d, want %v", a, l, x.normal, x.all, missing, e, x.want)
		}
	}
}

// P21.3 to P21.5: an ask for nothing still wants supplies that are not negative.
func TestAskForNothing(t *testing.T) {
	q := []api.Ask{{Account: 2}}
	for _, x := range []struct {
		normal, all int
		want        api.Shortage
	}{{0, 0, api.Shortage{Scope: -1}}, {-1, 0, api.Shortage{Count: 1, Scope: -1, Kernel: true}}, {0, -1, api.Shortage{Count: 1, Scope: -1}}} {
		missing, e := Short(q[0], sample(), x.normal, x.all)
		if missing != x.want || e != api.OK || Hopeless(q[0], sample(), x.normal, x.all) != (x.want.Count > 0) {
			t.Errorf("Short(%d, %d) = %v, %d", x.normal, x.all, missing, e)
		}
		if granted, _, _ := Serve(q, sample(), x.normal, x.all); (granted == 1) != (x.want.Count == 0) {
			t.Errorf("Serve(%d, %d) = %d", x.normal, x.all, granted)
		}
	}
}

// withMark returns a copy with a mark in the spare capacity behind it.
func withMark[E any](l []E, mark E) []E {
	return append(slices.Clone(l), mark)[:len(l)]
}

// isMarked reports whether l is equal to want, with the mark in its place.
func isMarked[E comparable](l, want []E, mark E) bool {
	return slices.Equal(l, want) && l[:len(l)+1][len(l)] == mark
}

// overwrite changes everything in a list, and behind it.
func overwrite[E any](l []E, to E) {
	l = l[:cap(l)]
	for i := range l {
		l[i] = to
	}
}

// The rule 'Values', for all functions.
func TestArgumentsStay(t *testing.T) {
	ask, account := api.Ask{Proc: 99}, api.Account{Parent: 99}
	actions := []action{serveAction(0, 0), serveAction(1, 9), serveAction(9, 9)}
	for proc := -1; proc <= 8; proc++ {
		actions = append(actions, cancelAction(proc), pushAction(api.Ask{Proc: proc, User: 1}))
	}
	invalid := sample()
	invalid[3].Usage = 0
	for _, l := range [][]api.Account{sample(), invalid, {}} {
		for _, q := range [][]api.Ask{{}, fullQueue(), fullQueue()[:3], append(fullQueue(), fullQueue()[0])} {
			for _, a := range actions {
				queue, list := withMark(q, ask), withMark(l, account)
				got := a.do(queue, list)
				Short(api.Ask{Account: 4, User: 1}, list, 9, 9)
				Hopeless(api.Ask{Account: 4, User: 1}, list, 9, 9)
				if !isMarked(queue, q, ask) || !isMarked(list, l, account) {
					t.Fatalf("%s: an argument has changed", a.what)
				}
				want := outcome{slices.Clone(got.q), got.granted, slices.Clone(got.l), got.e}
				overwrite(queue, api.Ask{Proc: 7})
				overwrite(list, api.Account{Parent: 7})
				if !got.same(want) {
					t.Fatalf("%s: the result changes with an argument", a.what)
				}
				queue, list = withMark(q, ask), withMark(l, account)
				got = a.do(queue, list)
				overwrite(got.q, api.Ask{Proc: 7})
				overwrite(got.l, api.Account{Parent: 7})
				if !isMarked(queue, q, ask) || !isMarked(list, l, account) {
					t.Fatalf("%s: an argument changes with the result", a.what)
				}
			}
		}
	}
}

// The examples of the chapter.
func TestExamples(t *testing.T) {
	a := api.Ask{Proc: 2, Account: 1, Kernel: 1, User: 2}
	if missing, e := Short(a, chapter(), 9, 9); missing != (api.Shortage{Count: 1, Scope: 1}) || e != api.OK {
		t.Errorf("Short of three frames = %v, %d", missing, e)
	}
	a.User = 1
	for _, x := range []struct {
		normal, all int
		want        api.Shortage
	}{
		{0, 9, api.Shortage{Count: 1, Scope: -1, Kernel: true}},
		{1, 1, api.Shortage{Count: 1, Scope: -1}},
		{1, 2, api.Shortage{Scope: -1}},
	} {
		if missing, e := Short(a, chapter(), x.normal, x.all); missing != x.want || e != api.OK {
			t.Errorf("Short(%d, %d) = %v, %d", x.normal, x.all, missing, e)
		}
	}
	if !Hopeless(api.Ask{Proc: 2, Account: 1, Kernel: 3, User: 3}, chapter(), 9, 9) || Hopeless(a, chapter(), 9, 9) {
		t.Error("Hopeless")
	}
	q, e := Push(nil, a)
	a.Proc = 3
	q, second := Push(q, a)
	if !slices.Equal(q, []api.Ask{{Proc: 2, Account: 1, Kernel: 1, User: 1}, {Proc: 3, Account: 1, Kernel: 1, User: 1}}) || e != api.OK || second != api.OK {
		t.Errorf("the queue is %v, %d, %d", q, e, second)
	}
	granted, l, e := Serve(q, chapter(), 9, 9)
	if granted != 1 || len(l) != 2 || l[0].Usage != 6 || l[1].Usage != 5 || e != api.OK {
		t.Errorf("Serve = %d, %v, %d", granted, l, e)
	}
	if q, e := Cancel(q, 2); !slices.Equal(q, []api.Ask{a}) || e != api.OK {
		t.Errorf("Cancel = %v, %d", q, e)
	}
}
