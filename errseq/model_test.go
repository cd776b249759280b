package errseq

import (
	"testing"

	"estovers/api"
)

// most is the greatest Count of a valid sequence.
const most = 1 << 30

// isSequence is the promise of Valid.
func isSequence(e api.Errseq) bool {
	if e.Count < 0 || e.Count > most {
		return false
	}
	if e.Count == 0 {
		return !e.Seen
	}
	return true
}

// noted is the promise of Set.
func noted(e api.Errseq) (api.Errseq, int) {
	if !isSequence(e) {
		return api.Errseq{}, api.ErrArg
	}
	if e.Count > 0 && !e.Seen {
		return e, api.OK
	}
	if e.Count == most {
		return api.Errseq{}, api.ErrLimit
	}
	return api.Errseq{Count: e.Count + 1, Seen: false}, api.OK
}

// sampled is the promise of Sample.
func sampled(e api.Errseq) (int, int) {
	if !isSequence(e) {
		return 0, api.ErrArg
	}
	if e.Count == 0 || e.Seen {
		return e.Count, api.OK
	}
	return e.Count - 1, api.OK
}

// asked is the promise of Check.
func asked(e api.Errseq, since int) (api.Errseq, int, int) {
	if !isSequence(e) {
		return api.Errseq{}, 0, api.ErrArg
	}
	if since < 0 || since > e.Count {
		return api.Errseq{}, 0, api.ErrRange
	}
	if since == e.Count {
		return e, since, api.OK
	}
	e.Seen = true
	return e, e.Count, api.ErrIO
}

// expectSequence compares Valid, Set and Sample with their promises.
func expectSequence(t *testing.T, e api.Errseq) {
	t.Helper()
	if got, want := Valid(e), isSequence(e); got != want {
		t.Fatalf("Valid(%v) = %t", e, got)
	}
	expectSet(t, e)
	expectSample(t, e)
}

func expectSet(t *testing.T, e api.Errseq) (api.Errseq, int) {
	t.Helper()
	got, code := Set(e)
	want, wantCode := noted(e)
	if got != want || code != wantCode {
		t.Fatalf("Set(%v) = %v, %d, want %v, %d", e, got, code, want, wantCode)
	}
	if code == api.OK && !Valid(got) {
		t.Fatalf("Set(%v) = %v, which is not valid", e, got)
	}
	return got, code
}

func expectSample(t *testing.T, e api.Errseq) (int, int) {
	t.Helper()
	got, code := Sample(e)
	want, wantCode := sampled(e)
	if got != want || code != wantCode {
		t.Fatalf("Sample(%v) = %d, %d, want %d, %d", e, got, code, want, wantCode)
	}
	return got, code
}

// expectCheck compares Check with its promise.
func expectCheck(t *testing.T, e api.Errseq, since int) (api.Errseq, int, int) {
	t.Helper()
	got, position, code := Check(e, since)
	want, wantPosition, wantCode := asked(e, since)
	if got != want || position != wantPosition || code != wantCode {
		t.Fatalf("Check(%v, %d) = %v, %d, %d, want %v, %d, %d", e, since, got, position, code, want, wantPosition, wantCode)
	}
	if (code == api.OK || code == api.ErrIO) && !Valid(got) {
		t.Fatalf("Check(%v, %d) = %v, which is not valid", e, since, got)
	}
	return got, position, code
}
