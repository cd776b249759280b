package watermark

import (
	"slices"
	"testing"

	"estovers/api"
	"estovers/buddy"
)

// checked is the promise of Check.
func checked(m api.Marks) int {
	for _, n := range []int{m.Min, m.Low, m.High} {
		if n < 0 || n > 4096 {
			return api.ErrRange
		}
	}
	if !(m.Min <= m.Low && m.Low <= m.High) {
		return api.ErrOrder
	}
	return api.OK
}

// leveled is the promise of Levels.
func leveled(count, least int) (api.Marks, int) {
	if !(0 <= count && count <= 4096) || !(0 <= least && least <= count) {
		return api.Marks{}, api.ErrRange
	}
	m := api.Marks{Min: least, Low: least + (least+3)/4, High: least + (least+1)/2}
	if m.Low > count {
		m.Low = count
	}
	if m.High > count {
		m.High = count
	}
	return m, api.OK
}

// floorOf is the promise of Floor.
func floorOf(m api.Marks, context int) int {
	if checked(m) != api.OK || context < 0 || context > 2 {
		return -1
	}
	return []int{m.Min, m.Min / 2, 0}[context]
}

// numberAt returns the number of free blocks of an order in a list that may be too short.
func numberAt(free []int, order int) int {
	if order < len(free) {
		return free[order]
	}
	return 0
}

// isValidList is the definition of valid lists of numbers of free blocks.
func isValidList(free []int) bool {
	for order := range 5 {
		if n := numberAt(free, order); n < 0 || n > 4096 {
			return false
		}
	}
	return true
}

// totalOf is the definition of the total of a valid list.
func totalOf(free []int) int {
	size, sum := 1, 0
	for order := range 5 {
		sum += numberAt(free, order) * size
		size *= 2
	}
	return sum
}

// permitted is the promise of Allowed.
func permitted(free []int, m api.Marks, order, context int) bool {
	f := floorOf(m, context)
	if f == -1 || !isValidList(free) || order < 0 || order > 4 {
		return false
	}
	size := []int{1, 2, 4, 8, 16}[order]
	if totalOf(free)-size < f || !hasBlock(free, order) {
		return false
	}
	for o := 0; o <= order-1; o++ {
		above := 0
		for higher := o + 1; higher <= 4; higher++ {
			above += numberAt(free, higher) << higher
		}
		if above-size < f>>(o+1) {
			return false
		}
	}
	return true
}

// hasBlock reports whether there is a free block of an order or a higher one.
func hasBlock(free []int, order int) bool {
	for o := order; o <= 4; o++ {
		if numberAt(free, o) > 0 {
			return true
		}
	}
	return false
}

// awake is the promise of Wake.
func awake(m api.Marks, free int, running bool) bool {
	if checked(m) != api.OK {
		return false
	}
	if running {
		return free < m.Low || free < m.High
	}
	return free < m.Low
}

// counted is the promise of Blocks.
func counted(z api.Zone) ([]int, int) {
	if e := buddy.Check(z); e != api.OK {
		return nil, e
	}
	return []int{len(z.Free[0]), len(z.Free[1]), len(z.Free[2]), len(z.Free[3]), len(z.Free[4])}, api.OK
}

// reserved is the promise of Reserve.
func reserved(zones []api.Zone) (int, int, int) {
	if len(zones) > 6 || slices.ContainsFunc(zones, func(z api.Zone) bool { return z.Min < 0 || z.Min > 4096 }) {
		return 0, 0, api.ErrRange
	}
	normal, all := 0, 0
	for _, z := range zones {
		all += z.Min
		if z.Kind == api.ZoneNormal {
			normal += z.Min
		}
	}
	return normal, all, api.OK
}

func expectCheck(t *testing.T, m api.Marks) {
	t.Helper()
	if got, want := Check(m), checked(m); got != want {
		t.Fatalf("Check(%v) = %d, want %d", m, got, want)
	}
}

func expectLevels(t *testing.T, count, least int) {
	t.Helper()
	got, e := Levels(count, least)
	want, wantError := leveled(count, least)
	if got != want || e != wantError {
		t.Fatalf("Levels(%d, %d) = %v, %d, want %v, %d", count, least, got, e, want, wantError)
	}
	if e == api.OK && Check(got) != api.OK {
		t.Fatalf("Levels(%d, %d) = %v, which are not valid", count, least, got)
	}
}

func expectFloor(t *testing.T, m api.Marks, context int) {
	t.Helper()
	if got, want := Floor(m, context), floorOf(m, context); got != want {
		t.Fatalf("Floor(%v, %d) = %d, want %d", m, context, got, want)
	}
}

func expectAllowed(t *testing.T, free []int, m api.Marks, order, context int) {
	t.Helper()
	if got, want := Allowed(free, m, order, context), permitted(free, m, order, context); got != want {
		t.Fatalf("Allowed(%v, %v, %d, %d) = %t, want %t", free, m, order, context, got, want)
	}
}

func expectWake(t *testing.T, m api.Marks, free int, running bool) {
	t.Helper()
	if got, want := Wake(m, free, running), awake(m, free, running); got != want {
		t.Fatalf("Wake(%v, %d, %t) = %t, want %t", m, free, running, got, want)
	}
}

func expectBlocks(t *testing.T, z api.Zone) {
	t.Helper()
	got, e := Blocks(z)
	want, wantError := counted(z)
	if !slices.Equal(got, want) || e != wantError {
		t.Fatalf("Blocks(%v) = %v, %d, want %v, %d", z, got, e, want, wantError)
	}
}

func expectReserve(t *testing.T, zones []api.Zone) {
	t.Helper()
	normal, all, e := Reserve(zones)
	wantNormal, wantAll, wantError := reserved(zones)
	if normal != wantNormal || all != wantAll || e != wantError {
		t.Fatalf("Reserve(%v) = %d, %d, %d, want %d, %d, %d", zones, normal, all, e, wantNormal, wantAll, wantError)
	}
}
