package accounts

import (
	"fmt"
	"slices"
	"testing"

	"estovers/api"
)

// most is the greatest number in an account.
const most = 1 << 20

// checked is the promise of Check.
func checked(l []api.Account) int {
	if len(l) == 0 || len(l) > 8 {
		return api.ErrLimit
	}
	for i, a := range l {
		if i == 0 && a.Parent != -1 || i > 0 && (a.Parent < 0 || a.Parent >= i) {
			return api.ErrArg
		}
	}
	for i, a := range l {
		for _, n := range []int{a.Usage, a.Min, a.Low, a.Max} {
			if n < 0 || n > most {
				return api.ErrRange
			}
		}
		if i == 0 && (a.Min > 0 || a.Low > 0) {
			return api.ErrRange
		}
	}
	for _, a := range l {
		if a.Usage > a.Max {
			return api.ErrCharge
		}
	}
	for i := range l {
		if ownOf(l, i) < 0 {
			return api.ErrState
		}
	}
	return api.OK
}

// pathOf returns the path of an account of a valid list.
func pathOf(l []api.Account, account int) []int {
	if account == 0 {
		return []int{0}
	}
	return append([]int{account}, pathOf(l, l[account].Parent)...)
}

// ownOf returns the own usage of an account.
func ownOf(l []api.Account, account int) int {
	own := l[account].Usage
	for _, a := range l {
		if a.Parent == account {
			own -= a.Usage
		}
	}
	return own
}

// hasAccount reports whether a list is valid and has an account.
func hasAccount(l []api.Account, account int) bool {
	return checked(l) == api.OK && account >= 0 && account < len(l)
}

// refusal is the part of the promises of Margin, Charge and Uncharge that is about lists and accounts.
func refusal(l []api.Account, account int) int {
	if e := checked(l); e != api.OK {
		return e
	}
	if account < 0 || account >= len(l) {
		return api.ErrNone
	}
	return api.OK
}

// marginOf is the promise of Margin.
func marginOf(l []api.Account, account int) (int, int, int) {
	if e := refusal(l, account); e != api.OK {
		return 0, 0, e
	}
	least, limiting := most+1, -1
	for _, x := range pathOf(l, account) {
		if room := l[x].Max - l[x].Usage; room < least {
			least, limiting = room, x
		}
	}
	return least, limiting, api.OK
}

// changed returns a list with n added to each usage on a path.
func changed(l []api.Account, account, n int) []api.Account {
	var out []api.Account
	for i, a := range l {
		if slices.Contains(pathOf(l, account), i) {
			a.Usage += n
		}
		out = append(out, a)
	}
	return out
}

// charged is the promise of Charge.
func charged(l []api.Account, account, n int) ([]api.Account, int, int) {
	if e := refusal(l, account); e != api.OK {
		return nil, -1, e
	}
	if n < 0 || n > most {
		return nil, -1, api.ErrRange
	}
	for _, x := range pathOf(l, account) {
		if l[x].Usage+n > l[x].Max {
			return nil, x, api.ErrCharge
		}
	}
	return changed(l, account, n), -1, api.OK
}

// uncharged is the promise of Uncharge.
func uncharged(l []api.Account, account, n int) ([]api.Account, int) {
	if e := refusal(l, account); e != api.OK {
		return nil, e
	}
	if n < 0 || n > most {
		return nil, api.ErrRange
	}
	if n > ownOf(l, account) {
		return nil, api.ErrState
	}
	return changed(l, account, -n), api.OK
}

// expectLooks compares Check and Total with their promises, and Path, Inside, Own and Margin for these accounts, which are also the scopes.
func expectLooks(t *testing.T, l []api.Account, accounts []int) {
	t.Helper()
	e := checked(l)
	if got := Check(l); got != e {
		t.Fatalf("Check(%v) = %d, want %d", l, got, e)
	}
	total := -1
	if e == api.OK {
		total = l[0].Usage
	}
	if got := Total(l); got != total {
		t.Fatalf("Total(%v) = %d, want %d", l, got, total)
	}
	for _, account := range accounts {
		expectAccount(t, l, account, accounts)
	}
}

// expectAccount compares Path, Inside, Own and Margin with their promises.
func expectAccount(t *testing.T, l []api.Account, account int, scopes []int) {
	t.Helper()
	var path []int
	own := -1
	if hasAccount(l, account) {
		path, own = pathOf(l, account), ownOf(l, account)
	}
	if got := Path(l, account); !slices.Equal(got, path) {
		t.Fatalf("Path(%v, %d) = %v, want %v", l, account, got, path)
	}
	if got := Own(l, account); got != own {
		t.Fatalf("Own(%v, %d) = %d, want %d", l, account, got, own)
	}
	for _, scope := range scopes {
		want := path != nil && (scope == -1 || slices.Contains(path, scope))
		if got := Inside(l, account, scope); got != want {
			t.Fatalf("Inside(%v, %d, %d) = %t, want %t", l, account, scope, got, want)
		}
	}
	margin, limiting, e := Margin(l, account)
	wantMargin, wantLimiting, wantError := marginOf(l, account)
	if margin != wantMargin || limiting != wantLimiting || e != wantError {
		t.Fatalf("Margin(%v, %d) = %d, %d, %d, want %d, %d, %d", l, account, margin, limiting, e, wantMargin, wantLimiting, wantError)
	}
}

// outcome is the result of Charge, or of Uncharge, for which by is -1.
type outcome struct {
	l  []api.Account
	by int
	e  int
}

func (o outcome) same(p outcome) bool {
	return slices.Equal(o.l, p.l) && o.by == p.by && o.e == p.e
}

// action is a call of Charge or Uncharge, and a direct reading of its promise.
type action struct {
	what string
	do   func(l []api.Account) outcome
	read func(l []api.Account) outcome
}

func chargeAction(account, n int) action {
	return action{fmt.Sprintf("Charge(%d, %d)", account, n), func(l []api.Account) outcome {
		out, by, e := Charge(l, account, n)
		return outcome{out, by, e}
	}, func(l []api.Account) outcome {
		out, by, e := charged(l, account, n)
		return outcome{out, by, e}
	}}
}

func unchargeAction(account, n int) action {
	return action{fmt.Sprintf("Uncharge(%d, %d)", account, n), func(l []api.Account) outcome {
		out, e := Uncharge(l, account, n)
		return outcome{out, -1, e}
	}, func(l []api.Account) outcome {
		out, e := uncharged(l, account, n)
		return outcome{out, -1, e}
	}}
}

// expect compares an action with the direct reading of its promise.
func expect(t *testing.T, l []api.Account, a action) outcome {
	t.Helper()
	got, want := a.do(l), a.read(l)
	if !got.same(want) {
		t.Fatalf("%s of %v = %v, want %v", a.what, l, got, want)
	}
	if got.e == api.OK && Check(got.l) != api.OK {
		t.Fatalf("%s of %v = %v, which is not valid", a.what, l, got)
	}
	return got
}
