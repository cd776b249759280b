package buddy

import (
	"fmt"
	"slices"
	"testing"

	"estovers/api"
)

// frameSet is a set of frames.
type frameSet map[int]bool

// inRange is the condition for the parameters of a zone.
func inRange(z api.Zone) bool {
	isNode := slices.Contains([]int{0, 1, 2, 3}, z.Node)
	isKind := slices.Contains([]int{api.ZoneNormal, api.ZoneMovable}, z.Kind)
	isPlace := z.Start >= 0 && z.Start <= 255 && z.Count >= 1 && z.Count <= 256 && z.Start+z.Count <= 256
	return isNode && isKind && isPlace && 0 <= z.Min && z.Min <= z.Count
}

// inZone reports whether a block is in a zone whose parameters are in range.
func inZone(z api.Zone, frame, order int) bool {
	if frame < 0 || frame > 255 {
		return false
	}
	size := []int{1, 2, 4, 8, 16}[order]
	return frame%size == 0 && frame >= z.Start && frame+size-1 <= z.Start+z.Count-1
}

// allIn reports whether all frames of a block are in a set.
func allIn(set frameSet, frame, order int) bool {
	for f := frame; f < frame+1<<order; f++ {
		if !set[f] {
			return false
		}
	}
	return true
}

// canonical returns a zone with the parameters of z and the canonical free lists of a set.
func canonical(z api.Zone, set frameSet) api.Zone {
	out := z
	for order := range 5 {
		out.Free[order] = nil
		for frame := range 256 {
			if inZone(z, frame, order) && allIn(set, frame, order) && !isInGreater(z, set, frame, order) {
				out.Free[order] = append(out.Free[order], frame)
			}
		}
	}
	return out
}

// isInGreater reports whether a block of a greater order in the zone contains a block, and has all its frames in the set.
func isInGreater(z api.Zone, set frameSet, frame, order int) bool {
	for greater := order + 1; greater <= 4; greater++ {
		first := frame - frame%(1<<greater)
		if inZone(z, first, greater) && allIn(set, first, greater) {
			return true
		}
	}
	return false
}

// setOf returns the frames of the free blocks of a zone.
func setOf(z api.Zone) frameSet {
	set := frameSet{}
	for order, l := range z.Free {
		for _, frame := range l {
			for i := range 1 << order {
				set[frame+i] = true
			}
		}
	}
	return set
}

// ascending returns the frames of a set.
func ascending(set frameSet) []int {
	var out []int
	for frame := range 256 {
		if set[frame] {
			out = append(out, frame)
		}
	}
	return out
}

// isValid is the definition of valid zones.
func isValid(z api.Zone) bool { return inRange(z) && same(z, canonical(z, setOf(z))) }

// checked is the promise of Check.
func checked(z api.Zone) int {
	if !inRange(z) {
		return api.ErrRange
	}
	for order, l := range z.Free {
		for i, frame := range l {
			if !inZone(z, frame, order) {
				return api.ErrForm
			}
			if i > 0 && !(frame > l[i-1]) {
				return api.ErrOrder
			}
		}
	}
	owners := map[int]int{}
	for order, l := range z.Free {
		for _, frame := range l {
			for i := range 1 << order {
				owners[frame+i]++
				if owners[frame+i] > 1 {
					return api.ErrExist
				}
			}
		}
	}
	for order, l := range z.Free[:4] {
		for _, frame := range l {
			buddy := frame - 1<<order
			if frame%(2<<order) == 0 {
				buddy = frame + 1<<order
			}
			if slices.Contains(l, buddy) && inZone(z, min(frame, buddy), order+1) {
				return api.ErrState
			}
		}
	}
	return api.OK
}

// outcome is the result of a function.
type outcome struct {
	z     api.Zone
	frame int
	e     int
}

func (o outcome) same(p outcome) bool { return o.frame == p.frame && o.e == p.e && same(o.z, p.z) }

// action is a call of a function, and a direct reading of its promise for a valid zone.
type action struct {
	what string
	do   func(z api.Zone) outcome
	read func(z api.Zone) outcome
}

func refuse(e int) outcome { return outcome{e: e} }

func allocAction(order int) action {
	return action{fmt.Sprintf("Alloc(%d)", order), func(z api.Zone) outcome {
		out, frame, e := Alloc(z, order)
		return outcome{out, frame, e}
	}, func(z api.Zone) outcome {
		if order < 0 || order > 4 {
			return refuse(api.ErrRange)
		}
		for k := order; k <= 4; k++ {
			if len(z.Free[k]) == 0 {
				continue
			}
			set := setOf(z)
			for i := range 1 << order {
				delete(set, z.Free[k][0]+i)
			}
			return outcome{z: canonical(z, set), frame: z.Free[k][0]}
		}
		return refuse(api.ErrMemory)
	}}
}

func freeAction(frame, order int) action {
	return action{fmt.Sprintf("Free(%d, %d)", frame, order), func(z api.Zone) outcome {
		out, e := Free(z, frame, order)
		return outcome{z: out, e: e}
	}, func(z api.Zone) outcome {
		if order < 0 || order > 4 || !inZone(z, frame, order) {
			return refuse(api.ErrRange)
		}
		set := setOf(z)
		for i := range 1 << order {
			if set[frame+i] {
				return refuse(api.ErrExist)
			}
		}
		for i := range 1 << order {
			set[frame+i] = true
		}
		return outcome{z: canonical(z, set)}
	}}
}

func takeAction(frame int) action {
	return action{fmt.Sprintf("Take(%d)", frame), func(z api.Zone) outcome {
		out, e := Take(z, frame)
		return outcome{z: out, e: e}
	}, func(z api.Zone) outcome {
		set := setOf(z)
		if !inZone(z, frame, 0) {
			return refuse(api.ErrRange)
		}
		if !set[frame] {
			return refuse(api.ErrNone)
		}
		delete(set, frame)
		return outcome{z: canonical(z, set)}
	}}
}

// expect compares an action for any zone with the direct reading of its promise.
func expect(t *testing.T, z api.Zone, a action) outcome {
	t.Helper()
	got, want := a.do(z), refuse(checked(z))
	if want.e == api.OK {
		want = a.read(z)
	}
	if !got.same(want) {
		t.Fatalf("%s of %v = %v, want %v", a.what, z, got, want)
	}
	if got.e == api.OK && Check(got.z) != api.OK {
		t.Fatalf("%s of %v = %v, which is not valid", a.what, z, got)
	}
	return got
}

// expectBuild compares Build with its promise.
func expectBuild(t *testing.T, z api.Zone, frames []int) {
	t.Helper()
	got, e := Build(z, frames)
	want, wantError := built(z, frames)
	if e != wantError || !same(got, want) {
		t.Fatalf("Build(%v, %v) = %v, %d, want %v, %d", z, frames, got, e, want, wantError)
	}
	if e == api.OK && !isValid(got) {
		t.Fatalf("Build(%v, %v) = %v, which is not valid", z, frames, got)
	}
}

// built is the promise of Build.
func built(z api.Zone, frames []int) (api.Zone, int) {
	if !inRange(z) {
		return api.Zone{}, api.ErrRange
	}
	set := frameSet{}
	for i, frame := range frames {
		if !inZone(z, frame, 0) {
			return api.Zone{}, api.ErrRange
		}
		if i > 0 && frame <= frames[i-1] {
			return api.Zone{}, api.ErrOrder
		}
		set[frame] = true
	}
	return canonical(z, set), api.OK
}

// expectLooks compares Check, IsFree, Frames, Count, Largest and Unusable with their promises.
func expectLooks(t *testing.T, z api.Zone) {
	t.Helper()
	e := checked(z)
	if got := Check(z); got != e {
		t.Fatalf("Check(%v) = %d, want %d", z, got, e)
	}
	set, largest := frameSet{}, -1
	var free [5][]int
	if e == api.OK {
		set, free = setOf(z), z.Free
	}
	for order, l := range free {
		if len(l) > 0 {
			largest = order
		}
	}
	frames := ascending(set)
	if got := Frames(z); !slices.Equal(got, frames) {
		t.Fatalf("Frames(%v) = %v, want %v", z, got, frames)
	}
	if got, _ := Build(z, frames); e == api.OK && !same(got, z) {
		t.Fatalf("Build(%v, %v) = %v", z, frames, got)
	}
	if got := Count(z); got != len(frames) {
		t.Fatalf("Count(%v) = %d, want %d", z, got, len(frames))
	}
	if got := Largest(z); got != largest {
		t.Fatalf("Largest(%v) = %d, want %d", z, got, largest)
	}
	for _, frame := range numbers(z) {
		if got := IsFree(z, frame); got != set[frame] {
			t.Fatalf("IsFree(%v, %d) = %t", z, frame, got)
		}
	}
	for _, order := range orders() {
		want := 0
		for below := 0; below < order && order <= 4; below++ {
			want += len(free[below]) * []int{1, 2, 4, 8, 16}[below]
		}
		if got := Unusable(z, order); got != want {
			t.Fatalf("Unusable(%v, %d) = %d, want %d", z, order, got, want)
		}
	}
}

func deepCopy(z api.Zone) api.Zone {
	out := z
	for order := range out.Free {
		out.Free[order] = slices.Clone(z.Free[order])
	}
	return out
}

// same reports whether two zones are equal, where nil and empty lists are the same.
func same(a, b api.Zone) bool {
	for order := range a.Free {
		if !slices.Equal(a.Free[order], b.Free[order]) {
			return false
		}
	}
	return a.Node == b.Node && a.Kind == b.Kind && a.Start == b.Start && a.Count == b.Count && a.Min == b.Min
}
