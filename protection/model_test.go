package protection

import (
	"slices"
	"testing"

	"estovers/accounts"
	"estovers/api"
)

// most is the greatest number in an account and of leaving pages.
const most = 1 << 20

// pathOf returns the path of an account of a valid list.
func pathOf(l []api.Account, account int) []int {
	if account == 0 {
		return []int{0}
	}
	return append([]int{account}, pathOf(l, l[account].Parent)...)
}

// childrenOf returns the accounts whose parent is an account.
func childrenOf(l []api.Account, account int) []int {
	var out []int
	for i, a := range l {
		if a.Parent == account {
			out = append(out, i)
		}
	}
	return out
}

// insideOf returns the sum of leaving over the accounts inside an account.
func insideOf(l []api.Account, leaving []int, x int) int {
	sum := 0
	for i, n := range leaving {
		if slices.Contains(pathOf(l, i), x) {
			sum += n
		}
	}
	return sum
}

// restOf returns the rest of an account.
func restOf(l []api.Account, leaving []int, x int) int { return l[x].Usage - insideOf(l, leaving, x) }

// isLeaving reports whether a list is valid, and leaving is a list of leaving pages for it.
func isLeaving(l []api.Account, leaving []int) bool {
	if accounts.Check(l) != api.OK || len(leaving) != len(l) {
		return false
	}
	return slices.Min(leaving) >= 0 && slices.Max(leaving) <= most
}

// guardsOf returns the guards of an account for a scope that it is inside.
func guardsOf(l []api.Account, account, scope int) []int {
	var out []int
	for _, x := range pathOf(l, account) {
		if x == scope || x == 0 {
			return out
		}
		out = append(out, x)
	}
	return out
}

// guarded is the promise of Guarded.
func guarded(l []api.Account, leaving []int, account, scope int, low bool) bool {
	if !isLeaving(l, leaving) || account < 0 || account >= len(l) {
		return true
	}
	if scope != -1 && !slices.Contains(pathOf(l, account), scope) {
		return true
	}
	for _, x := range guardsOf(l, account, scope) {
		rest := restOf(l, leaving, x)
		if !low && rest <= l[x].Min || low && rest <= l[x].Low {
			return true
		}
	}
	return false
}

// effective is the promise of Effective.
func effective(l []api.Account) ([]int, int) {
	if e := accounts.Check(l); e != api.OK {
		return nil, e
	}
	out := make([]int, len(l))
	out[0] = l[0].Usage
	smaller := func(c int) int { return min(l[c].Min, l[c].Usage) }
	var share func(x int)
	share = func(x int) {
		t := 0
		for _, c := range childrenOf(l, x) {
			t += smaller(c)
		}
		for _, c := range childrenOf(l, x) {
			out[c] = smaller(c)
			if t > out[x] {
				out[c] = smaller(c) * out[x] / t
			}
			share(c)
		}
	}
	share(0)
	return out, api.OK
}

// overcommitted is the promise of Overcommit.
func overcommitted(l []api.Account, frames int) (int, int) {
	if e := accounts.Check(l); e != api.OK {
		return 0, e
	}
	if frames < 0 || frames > most {
		return 0, api.ErrRange
	}
	for i, a := range l {
		sum := 0
		for _, c := range childrenOf(l, i) {
			sum += l[c].Min
		}
		if i == 0 && sum > frames || i > 0 && sum > a.Min {
			return i, api.OK
		}
	}
	return -1, api.OK
}

// opened is the promise of Open.
func opened(l []api.Account, leaving []int, scope int) int {
	if !isLeaving(l, leaving) || scope < -1 || scope >= len(l) {
		return -1
	}
	for i := range l {
		inside := scope == -1 || slices.Contains(pathOf(l, i), scope)
		if inside && accounts.Own(l, i) > leaving[i] && !guarded(l, leaving, i, scope, false) {
			return i
		}
	}
	return -1
}

// sums is the promise of Inside.
func sums(l []api.Account, leaving []int) []int {
	if !isLeaving(l, leaving) {
		return nil
	}
	var out []int
	for i := range l {
		out = append(out, insideOf(l, leaving, i))
	}
	return out
}

// expectLeaving compares the functions that have a list of leaving pages with their promises, for these accounts and scopes.
func expectLeaving(t *testing.T, l []api.Account, leaving []int, all []int) {
	t.Helper()
	if got, want := Inside(l, leaving), sums(l, leaving); !slices.Equal(got, want) {
		t.Fatalf("Inside(%v, %v) = %v, want %v", l, leaving, got, want)
	}
	for _, scope := range all {
		if got, want := Open(l, leaving, scope), opened(l, leaving, scope); got != want {
			t.Fatalf("Open(%v, %v, %d) = %d, want %d", l, leaving, scope, got, want)
		}
		for _, account := range all {
			for _, low := range []bool{false, true} {
				if got, want := Guarded(l, leaving, account, scope, low), guarded(l, leaving, account, scope, low); got != want {
					t.Fatalf("Guarded(%v, %v, %d, %d, %t) = %t", l, leaving, account, scope, low, got)
				}
			}
		}
	}
}

// expectEffective compares Effective with its promise.
func expectEffective(t *testing.T, l []api.Account) {
	t.Helper()
	got, e := Effective(l)
	want, wantError := effective(l)
	if !slices.Equal(got, want) || e != wantError {
		t.Fatalf("Effective(%v) = %v, %d, want %v, %d", l, got, e, want, wantError)
	}
}

// expectOvercommit compares Overcommit with its promise.
func expectOvercommit(t *testing.T, l []api.Account, frames int) {
	t.Helper()
	got, e := Overcommit(l, frames)
	want, wantError := overcommitted(l, frames)
	if got != want || e != wantError {
		t.Fatalf("Overcommit(%v, %d) = %d, %d, want %d, %d", l, frames, got, e, want, wantError)
	}
}
