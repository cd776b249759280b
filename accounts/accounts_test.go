package accounts

import (
	"math"
	"math/rand"
	"slices"
	"testing"

	"estovers/api"
)

// limits are the limits of int and of the accounts, and the numbers beside them.
func limits() []int {
	return []int{math.MinInt, math.MinInt + 1, -1 << 32, -most - 1, -most, -2, -1, 0, 1, 2, 3, 4, 5, 6, 7, 8, 9, most - 1, most, most + 1, 1 << 32, math.MaxInt - most, math.MaxInt - 1, math.MaxInt}
}

// near are the accounts of a list with so many, and those beside them.
func near(l []api.Account) []int {
	var out []int
	for n := -2; n <= len(l)+1; n++ {
		out = append(out, n)
	}
	return out
}

// sample returns a tree whose own usages are 5, 4, 6, 3 and 2.
func sample() []api.Account {
	return []api.Account{
		{Parent: -1, Usage: 20, Max: 30},
		{Parent: 0, Usage: 9, Min: 4, Low: 5, Max: 12},
		{Parent: 0, Usage: 6, Min: 8, Low: 2, Max: 6},
		{Parent: 1, Usage: 5, Min: 7, Low: 1, Max: 9},
		{Parent: 3, Usage: 2, Max: 4},
	}
}

// chapter returns the accounts of the example of the chapter.
func chapter() []api.Account {
	return []api.Account{{Parent: -1, Usage: 5, Max: 10}, {Parent: 0, Usage: 4, Max: 6}, {Parent: 1, Usage: 3, Max: 8}}
}

// lists calls f for all lists of so many accounts whose parents, usages and limits are among these, also those that are not valid.
func lists(count int, parents, numbers []int, f func(l []api.Account)) {
	l := make([]api.Account, count)
	var fill func(at int)
	fill = func(at int) {
		if at == count {
			f(l)
			return
		}
		for _, parent := range parents {
			for _, usage := range numbers {
				for _, limit := range numbers {
					l[at] = api.Account{Parent: parent, Usage: usage, Max: limit}
					fill(at + 1)
				}
			}
		}
	}
	fill(0)
}

// P19.1 to P19.6: all functions, for all small lists, valid and not.
func TestSmallLists(t *testing.T) {
	expectAll := func(l []api.Account) {
		expectLooks(t, l, near(l))
		for account := -1; account <= len(l); account++ {
			for n := -1; n <= 4; n++ {
				expect(t, l, chargeAction(account, n))
				expect(t, l, unchargeAction(account, n))
			}
		}
	}
	lists(0, nil, nil, expectAll)
	lists(1, []int{-2, -1, 0, 1}, []int{-1, 0, 1, 2, 3}, expectAll)
	lists(2, []int{-2, -1, 0, 1, 2}, []int{-1, 0, 1, 2, 3}, expectAll)
	lists(3, []int{-1, 0, 1, 2}, []int{0, 1}, expectAll)
	lists(3, []int{-1, 0, 1}, []int{0, 1, 3}, expectAll)
}

// randomList returns a valid list of so many accounts, whose own usages and margins are at most size.
func randomList(random *rand.Rand, count, size int) []api.Account {
	l := make([]api.Account, count)
	for i := range l {
		l[i] = api.Account{Parent: -1, Usage: random.Intn(size + 1)}
		if i > 0 {
			l[i].Parent = random.Intn(i)
			l[i].Min, l[i].Low = random.Intn(size+1), random.Intn(size+1)
		}
	}
	for i := count - 1; i > 0; i-- {
		l[l[i].Parent].Usage += l[i].Usage
	}
	for i := range l {
		l[i].Max = min(most, l[i].Usage+random.Intn(size+1))
	}
	return l
}

// sizes are sizes with which the numbers of eight accounts stay in range.
func sizes() []int { return []int{0, 1, 3, 20, most / 8} }

// P19.2 to P19.6: all functions, for random trees of all sizes.
func TestRandomLists(t *testing.T) {
	random := rand.New(rand.NewSource(1))
	for range 400 {
		for _, size := range sizes() {
			l := randomList(random, 1+random.Intn(8), size)
			if e := Check(l); e != api.OK {
				t.Fatalf("Check(%v) = %d", l, e)
			}
			expectLooks(t, l, near(l))
			for account := range l {
				margin, _, _ := Margin(l, account)
				for _, n := range []int{0, 1, margin - 1, margin, margin + 1, random.Intn(size + 1)} {
					expect(t, l, chargeAction(account, n))
				}
				for _, n := range []int{0, 1, Own(l, account) - 1, Own(l, account), Own(l, account) + 1, l[account].Usage} {
					expect(t, l, unchargeAction(account, n))
				}
			}
		}
	}
}

// P19.1 to P19.6: all functions, for accounts, scopes and numbers of all magnitudes.
func TestLimits(t *testing.T) {
	greatest := []api.Account{{Parent: -1, Max: most}, {Parent: 0, Min: most, Low: most, Max: most}}
	full := slices.Clone(greatest)
	full[0].Usage, full[1].Usage = most, most
	for _, l := range [][]api.Account{sample(), chapter(), greatest, full, nil, sample()[1:]} {
		expectLooks(t, l, limits())
		for _, account := range limits() {
			for _, n := range limits() {
				expect(t, l, chargeAction(account, n))
				expect(t, l, unchargeAction(account, n))
			}
		}
	}
}

type fault struct {
	what   string
	change func(l []api.Account) []api.Account
	want   int
}

// accountFault changes an account, if there is such an account.
func accountFault(what string, i int, change func(a *api.Account), want int) fault {
	return fault{what, func(l []api.Account) []api.Account {
		if i < len(l) {
			change(&l[i])
		}
		return l
	}, want}
}

// numberFaults are numbers that are out of range.
func numberFaults() []fault {
	var out []fault
	for _, n := range []int{math.MinInt, -1, most + 1, math.MaxInt} {
		for i := range 5 {
			out = append(out,
				accountFault("a usage that is out of range", i, func(a *api.Account) { a.Usage = n }, api.ErrRange),
				accountFault("a guarantee that is out of range", i, func(a *api.Account) { a.Min = n }, api.ErrRange),
				accountFault("a soft limit that is out of range", i, func(a *api.Account) { a.Low = n }, api.ErrRange),
				accountFault("a hard limit that is out of range", i, func(a *api.Account) { a.Max = n }, api.ErrRange))
		}
	}
	return out
}

// treeFaults are changes of the number of accounts and of the parents of the sample, with the results of Check.
func treeFaults() []fault {
	parent := func(n int) func(a *api.Account) { return func(a *api.Account) { a.Parent = n } }
	cut := func(n int) func(l []api.Account) []api.Account {
		return func(l []api.Account) []api.Account { return l[:min(n, len(l))] }
	}
	more := func(n int) func(l []api.Account) []api.Account {
		return func(l []api.Account) []api.Account { return append(l, make([]api.Account, n)...) }
	}
	return []fault{
		{"nothing", more(0), api.OK},
		{"no accounts", cut(0), api.ErrLimit},
		{"four accounts", cut(4), api.OK},
		{"a usage in children that are not there", cut(1), api.OK},
		{"eight accounts", more(3), api.OK},
		{"nine accounts", more(4), api.ErrLimit},
		{"very many accounts", more(1 << 16), api.ErrLimit},
		accountFault("a root with itself as its parent", 0, parent(0), api.ErrArg),
		accountFault("a root with another account as its parent", 0, parent(1), api.ErrArg),
		accountFault("a root with parent -2", 0, parent(-2), api.ErrArg),
		accountFault("two roots", 1, parent(-1), api.ErrArg),
		accountFault("an account as its own parent", 1, parent(1), api.ErrArg),
		accountFault("the parent behind it", 3, parent(4), api.ErrArg),
		accountFault("the last account as its own parent", 4, parent(4), api.ErrArg),
		accountFault("the account before as the parent", 3, parent(2), api.OK),
		accountFault("no such parent", 4, parent(5), api.ErrArg),
		accountFault("the least parent", 4, parent(math.MinInt), api.ErrArg),
		accountFault("the greatest parent", 2, parent(math.MaxInt), api.ErrArg),
	}
}

// usageFaults are changes of the numbers of the sample, with the results of Check.
func usageFaults() []fault {
	usage := func(n int) func(a *api.Account) { return func(a *api.Account) { a.Usage = n } }
	limit := func(n int) func(a *api.Account) { return func(a *api.Account) { a.Max = n } }
	return []fault{
		accountFault("a root with a guarantee", 0, func(a *api.Account) { a.Min = 1 }, api.ErrRange),
		accountFault("a root with a soft limit", 0, func(a *api.Account) { a.Low = 1 }, api.ErrRange),
		accountFault("the greatest guarantee and soft limit", 1, func(a *api.Account) { a.Min, a.Low = most, most }, api.OK),
		accountFault("the greatest limit", 3, limit(most), api.OK),
		accountFault("a root at its limit", 0, limit(20), api.OK),
		accountFault("a root above its limit", 0, limit(19), api.ErrCharge),
		accountFault("the last account above its limit", 4, limit(1), api.ErrCharge),
		accountFault("an account above its limit", 2, usage(7), api.ErrCharge),
		accountFault("an account without a limit or usage", 2, func(a *api.Account) { a.Usage, a.Max = 0, 0 }, api.OK),
		accountFault("a root with no own usage", 0, usage(15), api.OK),
		accountFault("a root with less than its children", 0, usage(14), api.ErrState),
		accountFault("an account with no own usage", 3, usage(2), api.OK),
		accountFault("an account with less than its child", 3, usage(1), api.ErrState),
		accountFault("a child with more than its parent", 4, func(a *api.Account) { a.Usage, a.Max = 6, 6 }, api.ErrState),
	}
}

func faults() []fault { return slices.Concat(treeFaults(), usageFaults(), numberFaults()) }

// P19.1, with literal errors, and what the other functions say of these lists.
func TestFaults(t *testing.T) {
	for _, f := range faults() {
		if e := Check(f.change(sample())); e != f.want {
			t.Errorf("%s: Check = %d, want %d", f.what, e, f.want)
		}
	}
	for _, f := range faults() {
		for _, g := range faults() {
			l := g.change(f.change(sample()))
			expectLooks(t, l, []int{-1, 0, 4, 5})
			for _, a := range []action{chargeAction(2, 0), chargeAction(4, 3), chargeAction(5, -1), unchargeAction(4, 2), unchargeAction(5, -1)} {
				expect(t, l, a)
			}
		}
	}
}

// P19.1: each condition is checked for all accounts before the next one.
func TestFirstError(t *testing.T) {
	wrong := []api.Account{{Parent: -1, Usage: 9, Min: 1, Max: 5}, {Parent: 0, Usage: 7, Max: 7}, {Parent: 0, Usage: 7, Max: -1}, {Parent: 3}}
	for _, x := range []struct {
		mend func()
		want int
	}{
		{func() { wrong = append(wrong, make([]api.Account, 5)...) }, api.ErrLimit},
		{func() { wrong = wrong[:4] }, api.ErrArg},
		{func() { wrong[3].Parent = 2 }, api.ErrRange},
		{func() { wrong[2].Max = 8 }, api.ErrRange},
		{func() { wrong[0].Min = 0 }, api.ErrCharge},
		{func() { wrong[0].Max = 9 }, api.ErrState},
		{func() { wrong[2].Usage = 2 }, api.OK},
	} {
		x.mend()
		if e := Check(wrong); e != x.want {
			t.Errorf("Check(%v) = %d, want %d", wrong, e, x.want)
		}
	}
}

// P19.3 to P19.5: which error comes first.
func TestFirstErrorOfCharges(t *testing.T) {
	invalid := sample()
	invalid[4].Parent = 4
	for _, x := range []struct {
		l    []api.Account
		a    action
		want outcome
	}{
		{invalid, chargeAction(-1, -1), outcome{nil, -1, api.ErrArg}},
		{invalid, unchargeAction(-1, -1), outcome{nil, -1, api.ErrArg}},
		{sample(), chargeAction(-1, -1), outcome{nil, -1, api.ErrNone}},
		{sample(), chargeAction(5, most+1), outcome{nil, -1, api.ErrNone}},
		{sample(), unchargeAction(5, -1), outcome{nil, -1, api.ErrNone}},
		{sample(), chargeAction(0, -1), outcome{nil, -1, api.ErrRange}},
		{sample(), chargeAction(0, most+1), outcome{nil, -1, api.ErrRange}},
		{sample(), unchargeAction(0, -1), outcome{nil, -1, api.ErrRange}},
		{sample(), unchargeAction(0, most+1), outcome{nil, -1, api.ErrRange}},
		{sample(), unchargeAction(0, most), outcome{nil, -1, api.ErrState}},
		{sample(), chargeAction(0, most), outcome{nil, 0, api.ErrCharge}},
		{sample(), chargeAction(4, most), outcome{nil, 4, api.ErrCharge}},
		{sample(), chargeAction(3, 4), outcome{nil, 1, api.ErrCharge}},
		{sample(), chargeAction(2, 1), outcome{nil, 2, api.ErrCharge}},
		{sample(), chargeAction(2, 0), outcome{sample(), -1, api.OK}},
		{sample(), unchargeAction(3, 4), outcome{nil, -1, api.ErrState}},
	} {
		if got := x.a.do(x.l); !got.same(x.want) {
			t.Errorf("%s of %v = %v, want %v", x.a.what, x.l, got, x.want)
		}
	}
	if margin, limiting, e := Margin(invalid, 9); margin != 0 || limiting != 0 || e != api.ErrArg {
		t.Errorf("Margin of no tree = %d, %d, %d", margin, limiting, e)
	}
	if margin, limiting, e := Margin(sample(), 5); margin != 0 || limiting != 0 || e != api.ErrNone {
		t.Errorf("Margin of no account = %d, %d, %d", margin, limiting, e)
	}
}

// P19.3: of several accounts that limit a charge, the nearest one.
func TestNearestLimit(t *testing.T) {
	l := []api.Account{{Parent: -1, Usage: 3, Max: 5}, {Parent: 0, Usage: 3, Max: 5}, {Parent: 1, Usage: 2, Max: 4}, {Parent: 2, Usage: 1, Max: 9}}
	for account, want := range []int{0, 1, 2, 2} {
		if margin, limiting, e := Margin(l, account); margin != 2 || limiting != want || e != api.OK {
			t.Errorf("Margin(%d) = %d, %d, %d", account, margin, limiting, e)
		}
		if _, by, e := Charge(l, account, 3); by != want || e != api.ErrCharge {
			t.Errorf("Charge(%d, 3) = %d, %d", account, by, e)
		}
	}
}

// P19.7: the own usages add up to the total; a charge succeeds exactly if it is at most the margin; taking it back restores the list.
func TestRestored(t *testing.T) {
	random := rand.New(rand.NewSource(2))
	for range 400 {
		for _, size := range sizes() {
			l := randomList(random, 1+random.Intn(8), size)
			sum := 0
			for account := range l {
				sum += Own(l, account)
			}
			if sum != Total(l) {
				t.Fatalf("the own usages of %v add up to %d", l, sum)
			}
			account := random.Intn(len(l))
			margin, _, _ := Margin(l, account)
			for _, n := range []int{0, margin, margin + 1, random.Intn(margin + 1), random.Intn(most + 1), most} {
				out, _, e := Charge(l, account, n)
				if n <= most && (e == api.OK) != (n <= margin) {
					t.Fatalf("Charge(%v, %d, %d) = %d, and the margin is %d", l, account, n, e, margin)
				}
				if e != api.OK {
					continue
				}
				if back, e := Uncharge(out, account, n); e != api.OK || !slices.Equal(back, l) {
					t.Fatalf("%d charged to the account %d of %v and uncharged: %v, %d", n, account, l, back, e)
				}
			}
		}
	}
}

// both charges two accounts one after the other.
func both(l []api.Account, a, n, b, m int) ([]api.Account, bool) {
	out, _, e := Charge(l, a, n)
	if e != api.OK {
		return nil, false
	}
	out, _, e = Charge(out, b, m)
	return out, e == api.OK
}

// P19.7: two charges succeed in both orders or in none, with the same list.
func TestOrderOfCharges(t *testing.T) {
	random := rand.New(rand.NewSource(3))
	met := map[bool]int{}
	for range 3000 {
		for _, size := range sizes() {
			l := randomList(random, 1+random.Intn(8), size)
			a, b := random.Intn(len(l)), random.Intn(len(l))
			n, m := random.Intn(size/2+1), random.Intn(size/2+1)
			there, ok := both(l, a, n, b, m)
			back, okBack := both(l, b, m, a, n)
			if ok != okBack || !slices.Equal(there, back) {
				t.Fatalf("%d charged to %d and %d to %d of %v: %v, and in the other order %v", n, a, m, b, l, there, back)
			}
			met[ok]++
		}
	}
	if met[true] < 1000 || met[false] < 1000 {
		t.Errorf("too few cases: %v", met)
	}
}

// mark is the parent of the account that the tests put behind those of an argument.
const mark = 9999

// withMark returns a copy with spare capacity behind it.
func withMark(l []api.Account) []api.Account {
	return append(slices.Clone(l), api.Account{Parent: mark})[:len(l)]
}

// isMarked reports whether l is equal to want, with the mark in its place.
func isMarked(l, want []api.Account) bool {
	return slices.Equal(l, want) && l[:len(l)+1][len(l)].Parent == mark
}

// overwrite changes everything in a list, and behind it.
func overwrite[E any](l []E, to E) {
	l = l[:cap(l)]
	for i := range l {
		l[i] = to
	}
}

// The rule 'Values', for Charge and Uncharge.
func TestArgumentsStay(t *testing.T) {
	invalid := sample()
	invalid[3].Usage = 0
	for _, l := range [][]api.Account{sample(), invalid, {}} {
		for _, account := range near(l) {
			for n := -1; n <= 6; n++ {
				for _, a := range []action{chargeAction(account, n), unchargeAction(account, n)} {
					argument := withMark(l)
					got := a.do(argument)
					if !isMarked(argument, l) {
						t.Fatalf("%s: the argument has changed", a.what)
					}
					want := outcome{slices.Clone(got.l), got.by, got.e}
					overwrite(argument, api.Account{Parent: 7})
					if !got.same(want) {
						t.Fatalf("%s: the result changes with the argument", a.what)
					}
					argument = withMark(l)
					overwrite(a.do(argument).l, api.Account{Parent: 7})
					if !isMarked(argument, l) {
						t.Fatalf("%s: the argument changes with the result", a.what)
					}
				}
			}
		}
		argument := withMark(l)
		expectLooks(t, argument, near(l))
		overwrite(Path(argument, 4), 7)
		if !isMarked(argument, l) {
			t.Fatal("a function that looks at a list has changed it")
		}
	}
}

// The examples of the chapter.
func TestExamples(t *testing.T) {
	l := chapter()
	if path := Path(l, 2); !slices.Equal(path, []int{2, 1, 0}) {
		t.Errorf("Path = %v", path)
	}
	for account, want := range []int{1, 1, 3} {
		if own := Own(l, account); own != want {
			t.Errorf("Own(%d) = %d", account, own)
		}
	}
	if margin, limiting, e := Margin(l, 2); margin != 2 || limiting != 1 || e != api.OK {
		t.Errorf("Margin = %d, %d, %d", margin, limiting, e)
	}
	out, by, e := Charge(l, 2, 2)
	if by != -1 || e != api.OK || len(out) != 3 || out[0].Usage != 7 || out[1].Usage != 6 || out[2].Usage != 5 {
		t.Errorf("Charge = %v, %d, %d", out, by, e)
	}
	if out, by, e := Charge(l, 2, 3); out != nil || by != 1 || e != api.ErrCharge {
		t.Errorf("the second Charge = %v, %d, %d", out, by, e)
	}
	if out, e := Uncharge(l, 1, 2); out != nil || e != api.ErrState {
		t.Errorf("Uncharge = %v, %d", out, e)
	}
	if !Inside(l, 2, -1) || !Inside(l, 2, 1) || !Inside(l, 1, 1) || Inside(l, 1, 2) || Inside(l, 2, -2) || Total(l) != 5 {
		t.Error("Inside or Total")
	}
}
