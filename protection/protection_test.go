package protection

import (
	"math"
	"math/rand"
	"slices"
	"testing"

	"estovers/accounts"
	"estovers/api"
)

// limits are the limits of int and of the accounts, and the numbers beside them.
func limits() []int {
	return []int{math.MinInt, math.MinInt + 1, -1 << 32, -most - 1, -most, -2, -1, 0, 1, 2, 3, 4, 5, 6, 7, 8, 9, most - 1, most, most + 1, 1 << 32, math.MaxInt - most, math.MaxInt - 1, math.MaxInt}
}

// near are the accounts and scopes of a list with so many accounts, and those beside them.
func near(l []api.Account) []int {
	var out []int
	for n := -2; n <= len(l)+1; n++ {
		out = append(out, n)
	}
	return out
}

// chapter returns the accounts of the example of the chapter.
func chapter() []api.Account {
	return []api.Account{
		{Parent: -1, Usage: 10, Max: 20},
		{Parent: 0, Usage: 6, Min: 4, Max: 20},
		{Parent: 0, Usage: 4, Min: 4, Max: 20},
		{Parent: 1, Usage: 5, Min: 3, Max: 20},
	}
}

// charge adds to the usages of all accounts those of their children, and sets their limits.
func charge(l []api.Account) []api.Account {
	for i := len(l) - 1; i >= 0; i-- {
		l[i].Max = most
		if i > 0 {
			l[l[i].Parent].Usage += l[i].Usage
		}
	}
	return l
}

// tuples calls f for all lists of a length of these numbers; f may not keep them.
func tuples(length int, numbers []int, f func(l []int)) {
	l := make([]int, length)
	var fill func(at int)
	fill = func(at int) {
		if at == length {
			f(l)
			return
		}
		for _, n := range numbers {
			l[at] = n
			fill(at + 1)
		}
	}
	fill(0)
}

// trees calls f for all trees of three accounts with these parents and own usages and guarantees of at most 2.
func trees(f func(l []api.Account)) {
	for parent := range 2 {
		tuples(5, []int{0, 1, 2}, func(n []int) {
			f(charge([]api.Account{
				{Parent: -1, Usage: n[0]},
				{Parent: 0, Usage: n[1], Min: n[3], Low: n[4]},
				{Parent: parent, Usage: n[2], Min: n[4], Low: n[3]},
			}))
		})
	}
}

// P20.2, P20.3 and P20.5, for all small trees and all small numbers of leaving pages.
func TestSmallTrees(t *testing.T) {
	trees(func(l []api.Account) {
		tuples(3, []int{0, 1, 2, 3}, func(leaving []int) {
			expectLeaving(t, l, leaving, near(l))
		})
	})
}

// P20.1 and P20.4, for all small trees, also some with four accounts.
func TestSmallShares(t *testing.T) {
	trees(func(l []api.Account) {
		expectEffective(t, l)
		for frames := -1; frames <= 5; frames++ {
			expectOvercommit(t, l, frames)
		}
	})
	tuples(9, []int{0, 1, 2}, func(n []int) {
		l := charge([]api.Account{
			{Parent: -1},
			{Parent: 0, Usage: n[0], Min: n[3]},
			{Parent: n[6] % 2, Usage: n[1], Min: n[4] * 2},
			{Parent: n[7], Usage: n[2] * 2, Min: n[5]},
		})
		expectEffective(t, l)
		expectOvercommit(t, l, n[8]*2)
	})
}

// randomTree returns a valid list of so many accounts, whose own usages and guarantees are at most size.
func randomTree(random *rand.Rand, count, size int) []api.Account {
	l := []api.Account{{Parent: -1, Usage: random.Intn(size + 1)}}
	for i := 1; i < count; i++ {
		l = append(l, api.Account{Parent: random.Intn(i), Usage: random.Intn(size + 1), Min: random.Intn(size + 1), Low: random.Intn(size + 1)})
	}
	return charge(l)
}

// randomLeaving returns numbers that are at most the own usages.
func randomLeaving(random *rand.Rand, l []api.Account) []int {
	var out []int
	for i := range l {
		out = append(out, random.Intn(accounts.Own(l, i)+1))
	}
	return out
}

// sizes are sizes with which the usages of eight accounts stay in range.
func sizes() []int { return []int{0, 1, 3, 20, most / 8} }

// P20.1 to P20.5: all functions, for random trees of all sizes.
func TestRandomTrees(t *testing.T) {
	random := rand.New(rand.NewSource(1))
	for range 300 {
		for _, size := range sizes() {
			l := randomTree(random, 1+random.Intn(8), size)
			expectEffective(t, l)
			for range 5 {
				expectOvercommit(t, l, random.Intn(4*size+1))
			}
			expectLeaving(t, l, randomLeaving(random, l), near(l))
			expectLeaving(t, l, random.Perm(len(l)), near(l))
		}
	}
}

// P20.4: where the guarantees of the children are just enough.
func TestJustEnough(t *testing.T) {
	random := rand.New(rand.NewSource(2))
	for range 500 {
		l := randomTree(random, 8, 20)
		for i := len(l) - 1; i >= 0; i-- {
			least := 0
			for _, c := range childrenOf(l, i) {
				least += l[c].Min
			}
			if i > 0 {
				l[i].Min = max(l[i].Min, least)
				continue
			}
			expectOvercommit(t, l, least-1)
			if got, e := Overcommit(l, least); got != -1 || e != api.OK {
				t.Fatalf("Overcommit(%v, %d) = %d, %d", l, least, got, e)
			}
		}
		for i := 1; i < len(l); i++ {
			changed := slices.Clone(l)
			changed[i].Min += 1 - 2*random.Intn(2)
			if changed[i].Min >= 0 {
				expectOvercommit(t, changed, random.Intn(100))
			}
		}
	}
}

// faultyLists are lists with the errors of Check.
func faultyLists() map[int][]api.Account {
	out := map[int][]api.Account{api.ErrLimit: make([]api.Account, 9)}
	for _, e := range []int{api.ErrArg, api.ErrRange, api.ErrCharge, api.ErrState} {
		out[e] = chapter()
	}
	out[api.ErrArg][3].Parent = 3
	out[api.ErrRange][1].Min = most + 1
	out[api.ErrCharge][2].Max = 3
	out[api.ErrState][1].Usage = 4
	return out
}

// P20.1 to P20.5: what all functions return for lists that are not valid.
func TestInvalidLists(t *testing.T) {
	for e, l := range faultyLists() {
		if got, err := Effective(l); got != nil || err != e {
			t.Errorf("Effective(%v) = %v, %d, want %d", l, got, err, e)
		}
		for _, frames := range []int{-1, 8} {
			if got, err := Overcommit(l, frames); got != 0 || err != e {
				t.Errorf("Overcommit(%v, %d) = %d, %d, want %d", l, frames, got, err, e)
			}
		}
		leaving := make([]int, len(l))
		if got := Inside(l, leaving); got != nil {
			t.Errorf("Inside(%v) = %v", l, got)
		}
		if !Guarded(l, leaving, 0, 0, false) || !Guarded(l, leaving, 0, -1, true) || Open(l, leaving, -1) != -1 {
			t.Errorf("something may be taken from %v", l)
		}
	}
	for _, l := range [][]api.Account{nil, make([]api.Account, 1<<16)} {
		if _, e := Effective(l); e != api.ErrLimit {
			t.Errorf("Effective = %d", e)
		}
		expectOvercommit(t, l, 0)
		expectLeaving(t, l, make([]int, len(l)), []int{-1, 0, 1})
	}
}

// P20.2, P20.3 and P20.5: lists of leaving pages that are not valid.
func TestInvalidLeaving(t *testing.T) {
	l := chapter()
	for _, leaving := range [][]int{nil, {}, {0, 0, 0}, {0, 0, 0, 0, 0}, make([]int, 1<<16), {-1, 0, 0, 0}, {0, 0, 0, -1}, {0, 0, math.MinInt, 0}, {most + 1, 0, 0, 0}, {0, 0, 0, most + 1}, {0, math.MaxInt, 0, 0}} {
		if got := Inside(l, leaving); got != nil {
			t.Errorf("Inside of %d numbers = %v", len(leaving), got)
		}
		for _, scope := range []int{-1, 0, 1} {
			if got := Open(l, leaving, scope); got != -1 {
				t.Errorf("Open of %d numbers = %d", len(leaving), got)
			}
			if !Guarded(l, leaving, 0, -1, false) || !Guarded(l, leaving, 1, 1, true) {
				t.Errorf("something may be taken with %d numbers", len(leaving))
			}
		}
		expectLeaving(t, l, leaving, near(l))
	}
	// More may be leaving than is charged.
	for _, leaving := range [][]int{{most, most, most, most}, {0, 7, 0, 0}, {most, 0, 0, 0}} {
		expectLeaving(t, l, leaving, near(l))
	}
}

// P20.2 to P20.5: accounts, scopes and numbers of all magnitudes.
func TestLimits(t *testing.T) {
	l := chapter()
	expectLeaving(t, l, []int{0, 0, 0, 1}, limits())
	for _, n := range limits() {
		expectOvercommit(t, l, n)
		expectLeaving(t, l, []int{0, n, 0, 0}, near(l))
		expectLeaving(t, l, []int{n, 0, 0, n}, near(l))
	}
	// The greatest numbers of all, of which seven children want far more than there is.
	wide := []api.Account{{Parent: -1, Usage: most, Max: most}}
	for range 7 {
		wide = append(wide, api.Account{Usage: most / 7, Min: most, Low: most, Max: most})
	}
	deep := slices.Clone(wide)
	for i := range deep[1:] {
		deep[i+1].Parent, deep[i+1].Usage = i, most
	}
	for _, l := range [][]api.Account{wide, deep} {
		expectEffective(t, l)
		for _, n := range limits() {
			expectOvercommit(t, l, n)
		}
		expectLeaving(t, l, make([]int, 8), near(l))
		expectLeaving(t, l, slices.Repeat([]int{most}, 8), near(l))
	}
}

// P20.1: shares are rounded down, and what is shared is the effective guarantee of the parent.
func TestShares(t *testing.T) {
	for _, x := range []struct {
		usages, mins, want []int
	}{
		{[]int{10, 10, 0, 0}, []int{0, 4, 0, 0}, []int{10, 4, 0, 0}},
		{[]int{10, 6, 4, 0}, []int{0, 6, 4, 0}, []int{10, 6, 4, 0}},
		{[]int{10, 6, 4, 6}, []int{0, 5, 4, 6}, []int{10, 5, 4, 5}},
		{[]int{10, 6, 4, 6}, []int{0, 0, 4, 6}, []int{10, 0, 4, 0}},
		{[]int{10, 6, 4, 3}, []int{0, 9, 9, 9}, []int{10, 6, 4, 3}},
	} {
		l := chapter()
		for i := range l {
			l[i].Usage, l[i].Min = x.usages[i], x.mins[i]
		}
		if got, e := Effective(l); e != api.OK || !slices.Equal(got, x.want) {
			t.Errorf("Effective(%v) = %v, %d, want %v", l, got, e, x.want)
		}
	}
	l := charge([]api.Account{{Parent: -1}, {Usage: 5, Min: 5}, {Parent: 1, Usage: 3, Min: 3}, {Parent: 1, Usage: 4, Min: 4}, {Parent: 1, Usage: 1, Min: 2}})
	if got, e := Effective(l); e != api.OK || !slices.Equal(got, []int{13, 5, 1, 2, 0}) {
		t.Errorf("Effective(%v) = %v, %d", l, got, e)
	}
}

// P20.6: what effective guarantees add up to, and what they are at most.
func TestGuaranteesAreCovered(t *testing.T) {
	random := rand.New(rand.NewSource(3))
	for range 2000 {
		for _, size := range sizes() {
			l := randomTree(random, 1+random.Intn(8), size)
			got, _ := Effective(l)
			for x := range l {
				sum := 0
				for _, c := range childrenOf(l, x) {
					sum += got[c]
				}
				if sum > got[x] || got[x] > l[x].Usage || x > 0 && got[x] > l[x].Min {
					t.Fatalf("Effective(%v) = %v", l, got)
				}
			}
		}
	}
}

// P20.6: who is guarded is guarded for wider scopes, and for greater guarantees.
func TestGuardsOfWiderScopes(t *testing.T) {
	random := rand.New(rand.NewSource(4))
	for range 1000 {
		l := randomTree(random, 2+random.Intn(7), 1+random.Intn(9))
		for i := range l {
			l[i].Low = max(l[i].Low, l[i].Min)
		}
		leaving := randomLeaving(random, l)
		for account := range l {
			path := append(accounts.Path(l, account), -1)
			for i, scope := range path {
				if Guarded(l, leaving, account, scope, false) && !Guarded(l, leaving, account, scope, true) {
					t.Fatalf("the account %d of %v with %v leaving is not softly guarded for %d", account, l, leaving, scope)
				}
				for _, wider := range path[i:] {
					for _, low := range []bool{false, true} {
						if Guarded(l, leaving, account, scope, low) && !Guarded(l, leaving, account, wider, low) {
							t.Fatalf("the account %d of %v with %v leaving is guarded for %d, not for %d", account, l, leaving, scope, wider)
						}
					}
				}
			}
		}
	}
}

// expectOpen checks that an account has pages that may be taken, where more is charged than is guaranteed.
func expectOpen(t *testing.T, l []api.Account, leaving []int, frames int) int {
	t.Helper()
	met := 0
	for scope := range l {
		guarantee := l[scope].Min
		if scope == 0 {
			guarantee = frames
		}
		if restOf(l, leaving, scope) <= guarantee {
			continue
		}
		met++
		if Open(l, leaving, scope) == -1 {
			t.Fatalf("Open(%v, %v, %d) = -1, with %d frames", l, leaving, scope, frames)
		}
	}
	return met
}

// P20.6: at a shortage in which more is charged than is guaranteed, something may be taken.
func TestSomethingIsOpen(t *testing.T) {
	random := rand.New(rand.NewSource(5))
	met := 0
	for range 20000 {
		l := randomTree(random, 1+random.Intn(8), 1+random.Intn(9))
		frames := random.Intn(20)
		if e := accounts.Check(l); e != api.OK {
			t.Fatalf("Check(%v) = %d", l, e)
		}
		if x, _ := Overcommit(l, frames); x == -1 {
			met += expectOpen(t, l, randomLeaving(random, l), frames)
		}
	}
	trees(func(l []api.Account) {
		for frames := range 5 {
			if x, _ := Overcommit(l, frames); x != -1 {
				continue
			}
			tuples(3, []int{0, 1, 2}, func(leaving []int) {
				for i, n := range leaving {
					if n > accounts.Own(l, i) {
						return
					}
				}
				met += expectOpen(t, l, leaving, frames)
			})
		}
	})
	if met < 10000 {
		t.Errorf("too few cases: %d", met)
	}
}

// mark is what the tests put behind the arguments.
const mark = 9999

// overwrite changes everything in a list, and behind it.
func overwrite[E any](l []E, to E) {
	l = l[:cap(l)]
	for i := range l {
		l[i] = to
	}
}

// The rule 'Values'.
func TestArgumentsStay(t *testing.T) {
	invalid := chapter()
	invalid[3].Parent = 3
	for _, want := range [][]api.Account{chapter(), invalid} {
		l := append(slices.Clone(want), api.Account{Parent: mark})[:4]
		leaving := []int{0, 1, 0, 2, mark}[:4]
		stays := func(what string) {
			t.Helper()
			if !slices.Equal(l, want) || l[:5][4].Parent != mark || !slices.Equal(leaving[:5], []int{0, 1, 0, 2, mark}) {
				t.Fatalf("%s has changed its arguments", what)
			}
		}
		expectLeaving(t, l, leaving, near(l))
		expectEffective(t, l)
		expectOvercommit(t, l, 7)
		stays("a function")
		sums := Inside(l, leaving)
		kept := slices.Clone(sums)
		overwrite(sums, 77)
		shares, _ := Effective(l)
		overwrite(shares, 77)
		stays("what changes a result")
		sums = Inside(l, leaving)
		overwrite(leaving, 5)
		overwrite(l, api.Account{})
		if !slices.Equal(sums, kept) {
			t.Error("the result of Inside changes with its arguments")
		}
	}
}

// The examples of the chapter.
func TestExamples(t *testing.T) {
	l, none, some := chapter(), []int{0, 0, 0, 0}, []int{0, 0, 0, 2}
	if got, e := Effective(l); e != api.OK || !slices.Equal(got, []int{10, 4, 4, 3}) {
		t.Errorf("Effective = %v, %d", got, e)
	}
	for _, x := range []struct {
		leaving        []int
		account, scope int
		want           bool
	}{{none, 2, -1, true}, {none, 2, 0, true}, {none, 2, 2, false}, {none, 3, -1, false}, {some, 3, -1, true}, {none, 2, 1, true}, {none, 0, -1, false}} {
		if got := Guarded(l, x.leaving, x.account, x.scope, false); got != x.want {
			t.Errorf("Guarded(%v, %d, %d) = %t", x.leaving, x.account, x.scope, got)
		}
	}
	if got := Inside(l, some); !slices.Equal(got, []int{2, 2, 0, 2}) {
		t.Errorf("Inside = %v", got)
	}
	if got := Open(l, none, -1); got != 1 {
		t.Errorf("Open = %d", got)
	}
	for frames, want := range map[int]int{8: -1, 7: 0} {
		if got, e := Overcommit(l, frames); got != want || e != api.OK {
			t.Errorf("Overcommit(%d) = %d, %d", frames, got, e)
		}
	}
}
