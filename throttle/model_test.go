package throttle

import (
	"math/big"
	"testing"

	"estovers/accounts"
	"estovers/api"
)

// isCounted is the first part of Terms.
func isCounted(f api.Frame) bool {
	if f.Kind != api.FrameFile {
		return false
	}
	return f.Dirty || f.Phase == api.PhaseClean || f.Phase == api.PhaseWrite
}

// isCleanable is the second part of Terms: whether a frame is ready.
func isCleanable(f api.Frame) bool {
	return f.Kind == api.FrameFile && f.Dirty && f.Phase == api.PhaseIdle
}

// counted is the promise of Count.
func counted(l []api.Frame) int {
	if len(l) == 0 {
		return 0
	}
	n := counted(l[1:])
	if isCounted(l[0]) {
		n++
	}
	return n
}

// isOver is the promise of Background, in exact integers.
func isOver(count, limit int) bool {
	if count < 0 || limit < 0 {
		return false
	}
	twice := new(big.Int).Mul(big.NewInt(2), big.NewInt(int64(count)))
	return twice.Cmp(big.NewInt(int64(limit))) > 0
}

// sharedOut is the promise of Share.
func sharedOut(l []api.Account, limit, account int) (int, int) {
	if e := accounts.Check(l); e != api.OK {
		return 0, e
	}
	if limit < 0 || limit > 1<<20 {
		return 0, api.ErrRange
	}
	if account < 0 || account >= len(l) {
		return 0, api.ErrNone
	}
	if l[0].Usage == 0 {
		return limit, api.OK
	}
	product := new(big.Int).Mul(big.NewInt(int64(limit)), big.NewInt(int64(l[account].Usage)))
	return int(product.Div(product, big.NewInt(int64(l[0].Usage))).Int64()), api.OK
}

// oldestOf is the promise of Oldest.
func oldestOf(l []api.Frame) int {
	for i, f := range l {
		isFirst := isCleanable(f)
		for j, g := range l {
			if isCleanable(g) && (g.Since < f.Since || g.Since == f.Since && j < i) {
				isFirst = false
			}
		}
		if isFirst {
			return i
		}
	}
	return -1
}

// expectFrames compares Counts, Count, Allowed and Oldest with their promises, for limits near the number of frames that count and these.
func expectFrames(t *testing.T, l []api.Frame, limits ...int) {
	t.Helper()
	for _, f := range l {
		if got, want := Counts(f), isCounted(f); got != want {
			t.Fatalf("Counts(%v) = %t", f, got)
		}
	}
	count := counted(l)
	if got := Count(l); got != count {
		t.Fatalf("Count(%v) = %d, want %d", l, got, count)
	}
	for _, limit := range append(limits, -1, 0, count-1, count, count+1) {
		if got := Allowed(l, limit); got != (count < limit) {
			t.Fatalf("Allowed(%v, %d) = %t", l, limit, got)
		}
	}
	if got, want := Oldest(l), oldestOf(l); got != want {
		t.Fatalf("Oldest(%v) = %d, want %d", l, got, want)
	}
}

func expectBackground(t *testing.T, count, limit int) bool {
	t.Helper()
	got := Background(count, limit)
	if got != isOver(count, limit) {
		t.Fatalf("Background(%d, %d) = %t", count, limit, got)
	}
	return got
}

func expectShare(t *testing.T, l []api.Account, limit, account int) (int, int) {
	t.Helper()
	got, e := Share(l, limit, account)
	want, wantError := sharedOut(l, limit, account)
	if got != want || e != wantError {
		t.Fatalf("Share(%v, %d, %d) = %d, %d, want %d, %d", l, limit, account, got, e, want, wantError)
	}
	return got, e
}
