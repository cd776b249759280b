package grant

import (
	"fmt"
	"slices"
	"testing"

	"estovers/accounts"
	"estovers/api"
)

// most is the greatest number of frames in an ask, and in an account.
const most = 1 << 20

// isAsk reports whether an ask is valid.
func isAsk(a api.Ask) bool {
	switch {
	case a.Proc < 0 || a.Proc > 7 || a.Account < 0:
		return false
	case a.Kernel < 0 || a.Kernel > most:
		return false
	}
	return a.User >= 0 && a.User <= most
}

// checked is the promise of Check.
func checked(q []api.Ask) int {
	for _, a := range q {
		if !isAsk(a) {
			return api.ErrRange
		}
	}
	for i, a := range q {
		for _, b := range q[:i] {
			if a.Proc == b.Proc {
				return api.ErrExist
			}
		}
	}
	return api.OK
}

// pushed is the promise of Push.
func pushed(q []api.Ask, a api.Ask) ([]api.Ask, int) {
	if e := checked(q); e != api.OK {
		return nil, e
	}
	if !isAsk(a) {
		return nil, api.ErrRange
	}
	var out []api.Ask
	for _, b := range q {
		if b.Proc == a.Proc {
			return nil, api.ErrExist
		}
		out = append(out, b)
	}
	return append(out, a), api.OK
}

// cancelled is the promise of Cancel.
func cancelled(q []api.Ask, proc int) ([]api.Ask, int) {
	if e := checked(q); e != api.OK {
		return nil, e
	}
	var out []api.Ask
	for _, a := range q {
		if a.Proc != proc {
			out = append(out, a)
		}
	}
	if len(out) == len(q) {
		return nil, api.ErrNone
	}
	return out, api.OK
}

// pathOf returns the path of an account of a valid list.
func pathOf(l []api.Account, account int) []int {
	if account == 0 {
		return []int{0}
	}
	return append([]int{account}, pathOf(l, l[account].Parent)...)
}

// hasAccount reports whether a list is valid and has an account.
func hasAccount(l []api.Account, account int) bool {
	return accounts.Check(l) == api.OK && account >= 0 && account < len(l)
}

// counted returns a supply as it counts in a difference.
func counted(supply int) int {
	if supply < -most {
		return -most
	}
	return supply
}

// shortOf is the promise of Short.
func shortOf(a api.Ask, l []api.Account, normal, all int) (api.Shortage, int) {
	if !isAsk(a) {
		return api.Shortage{}, api.ErrRange
	}
	if e := accounts.Check(l); e != api.OK {
		return api.Shortage{}, e
	}
	if !hasAccount(l, a.Account) {
		return api.Shortage{}, api.ErrNone
	}
	frames := a.Kernel + a.User
	for _, x := range pathOf(l, a.Account) {
		if over := frames - (l[x].Max - l[x].Usage); over > 0 {
			return api.Shortage{Count: over, Scope: x}, api.OK
		}
	}
	if over := a.Kernel - counted(normal); over > 0 {
		return api.Shortage{Count: over, Scope: -1, Kernel: true}, api.OK
	}
	if over := frames - counted(all); over > 0 {
		return api.Shortage{Count: over, Scope: -1}, api.OK
	}
	return api.Shortage{Scope: -1}, api.OK
}

// hopeless is the promise of Hopeless.
func hopeless(a api.Ask, l []api.Account, normal, all int) bool {
	if !isAsk(a) || !hasAccount(l, a.Account) {
		return true
	}
	frames := a.Kernel + a.User
	for _, x := range pathOf(l, a.Account) {
		if frames > l[x].Max {
			return true
		}
	}
	return a.Kernel > normal || frames > all
}

// fits reports whether a valid ask fits a valid list that has its account.
func fits(a api.Ask, l []api.Account, normal, all int) bool {
	margin, _, _ := accounts.Margin(l, a.Account)
	return a.Kernel+a.User <= margin && a.Kernel <= normal && a.Kernel+a.User <= all
}

// charged returns a list with n added to each usage on a path.
func charged(l []api.Account, account, n int) []api.Account {
	var out []api.Account
	for i, x := range l {
		if slices.Contains(pathOf(l, account), i) {
			x.Usage += n
		}
		out = append(out, x)
	}
	return out
}

// served is the promise of Serve.
func served(q []api.Ask, l []api.Account, normal, all int) (int, []api.Account, int) {
	if e := checked(q); e != api.OK {
		return 0, nil, e
	}
	if e := accounts.Check(l); e != api.OK {
		return 0, nil, e
	}
	for _, a := range q {
		if !hasAccount(l, a.Account) {
			return 0, nil, api.ErrNone
		}
	}
	granted := 0
	for granted < len(q) && fits(q[granted], l, normal, all) {
		a := q[granted]
		l = charged(l, a.Account, a.Kernel+a.User)
		normal -= a.Kernel
		all -= a.Kernel + a.User
		granted++
	}
	return granted, l, api.OK
}

// outcome is the result of Push, Cancel or Serve.
type outcome struct {
	q       []api.Ask
	granted int
	l       []api.Account
	e       int
}

func (o outcome) same(p outcome) bool {
	return slices.Equal(o.q, p.q) && o.granted == p.granted && slices.Equal(o.l, p.l) && o.e == p.e
}

// action is a call with a queue and accounts, and a direct reading of its promise.
type action struct {
	what string
	do   func(q []api.Ask, l []api.Account) outcome
	read func(q []api.Ask, l []api.Account) outcome
}

func pushAction(a api.Ask) action {
	return action{fmt.Sprintf("Push(%v)", a), func(q []api.Ask, _ []api.Account) outcome {
		out, e := Push(q, a)
		return outcome{q: out, e: e}
	}, func(q []api.Ask, _ []api.Account) outcome {
		out, e := pushed(q, a)
		return outcome{q: out, e: e}
	}}
}

func cancelAction(proc int) action {
	return action{fmt.Sprintf("Cancel(%d)", proc), func(q []api.Ask, _ []api.Account) outcome {
		out, e := Cancel(q, proc)
		return outcome{q: out, e: e}
	}, func(q []api.Ask, _ []api.Account) outcome {
		out, e := cancelled(q, proc)
		return outcome{q: out, e: e}
	}}
}

func serveAction(normal, all int) action {
	return action{fmt.Sprintf("Serve(%d, %d)", normal, all), func(q []api.Ask, l []api.Account) outcome {
		granted, out, e := Serve(q, l, normal, all)
		return outcome{granted: granted, l: out, e: e}
	}, func(q []api.Ask, l []api.Account) outcome {
		granted, out, e := served(q, l, normal, all)
		return outcome{granted: granted, l: out, e: e}
	}}
}

// expect compares an action with the direct reading of its promise.
func expect(t *testing.T, q []api.Ask, l []api.Account, a action) outcome {
	t.Helper()
	got, want := a.do(q, l), a.read(q, l)
	if !got.same(want) {
		t.Fatalf("%s of %v with %v = %v, want %v", a.what, q, l, got, want)
	}
	if Check(got.q) != api.OK || got.l != nil && accounts.Check(got.l) != api.OK {
		t.Fatalf("%s of %v with %v = %v, which is not valid", a.what, q, l, got)
	}
	return got
}

// expectQueue compares Check with its promise.
func expectQueue(t *testing.T, q []api.Ask) {
	t.Helper()
	if got, want := Check(q), checked(q); got != want {
		t.Fatalf("Check(%v) = %d, want %d", q, got, want)
	}
}

// expectAsk compares Short and Hopeless with their promises.
func expectAsk(t *testing.T, a api.Ask, l []api.Account, normal, all int) {
	t.Helper()
	got, e := Short(a, l, normal, all)
	want, wantError := shortOf(a, l, normal, all)
	if got != want || e != wantError {
		t.Fatalf("Short(%v, %v, %d, %d) = %v, %d, want %v, %d", a, l, normal, all, got, e, want, wantError)
	}
	if e == api.OK && (got.Count == 0) != fits(a, l, normal, all) {
		t.Fatalf("Short(%v, %v, %d, %d) = %v, but fits or not", a, l, normal, all, got)
	}
	if got, want := Hopeless(a, l, normal, all), hopeless(a, l, normal, all); got != want {
		t.Fatalf("Hopeless(%v, %v, %d, %d) = %t", a, l, normal, all, got)
	}
}
