package allocator

import (
	"fmt"
	"slices"
	"testing"

	"estovers/api"
	"estovers/buddy"
	"estovers/percpu"
	"estovers/zonelist"
)

// isPossible is the definition of machines that are in range.
func isPossible(nodes []int, batch, high, zones int) bool {
	for _, n := range nodes {
		if n < 0 || n > 3 {
			return false
		}
	}
	return 1 <= len(nodes) && len(nodes) <= 4 && 1 <= batch && batch <= high && high <= 64 && 1 <= zones && zones <= 6
}

// checked is the promise of Check.
func checked(a api.Allocator) int {
	if !isPossible(a.Nodes, a.Batch, a.High, len(a.Zones)) {
		return api.ErrRange
	}
	for i, z := range a.Zones {
		if e := buddy.Check(z); e != api.OK {
			return e
		}
		if i == 0 && z.Start != 0 || i > 0 && z.Start != a.Zones[i-1].Start+a.Zones[i-1].Count {
			return api.ErrOrder
		}
	}
	if len(a.Caches) != len(a.Nodes) {
		return api.ErrForm
	}
	for _, c := range a.Caches {
		if e := percpu.Check(c, len(a.Zones)); e != api.OK {
			return e
		}
		for _, l := range c.Lists {
			if len(l) > a.High {
				return api.ErrLimit
			}
		}
	}
	return cachedCheck(a)
}

// cachedCheck is the part of the promise of Check that is about the frames in the caches.
func cachedCheck(a api.Allocator) int {
	var before []int
	for _, c := range a.Caches {
		for zone, l := range c.Lists {
			for _, frame := range l {
				if frame < a.Zones[zone].Start || frame > a.Zones[zone].Start+a.Zones[zone].Count-1 {
					return api.ErrRange
				}
				if buddy.IsFree(a.Zones[zone], frame) || slices.Contains(before, frame) {
					return api.ErrExist
				}
				before = append(before, frame)
			}
		}
	}
	return api.OK
}

// zoneAt returns the zone of a frame of a valid allocator, or -1.
func zoneAt(a api.Allocator, frame int) int {
	for i, z := range a.Zones {
		if z.Start <= frame && frame < z.Start+z.Count {
			return i
		}
	}
	return -1
}

// freeFrames returns the free frames of a zone in ascending order.
func freeFrames(a api.Allocator, zone int) []int {
	out := slices.Clone(buddy.Frames(a.Zones[zone]))
	for _, c := range a.Caches {
		out = append(out, c.Lists[zone]...)
	}
	slices.Sort(out)
	return out
}

func isFreeFrame(a api.Allocator, frame int) bool {
	zone := zoneAt(a, frame)
	return zone >= 0 && slices.Contains(freeFrames(a, zone), frame)
}

// room is the number of frames of a zone for which it has room; it may be negative.
func room(a api.Allocator, zone int) int { return len(freeFrames(a, zone)) - a.Zones[zone].Min }

// setZone gives a zone the canonical lists of a set of frames.
func setZone(a api.Allocator, zone int, frames []int) {
	a.Zones[zone], _ = buddy.Build(a.Zones[zone], slices.Sorted(slices.Values(frames)))
}

// drainZone empties the lists of a zone into it.
func drainZone(a api.Allocator, zone int) {
	setZone(a, zone, freeFrames(a, zone))
	for _, c := range a.Caches {
		c.Lists[zone] = nil
	}
}

// outcome is the result of a function.
type outcome struct {
	a     api.Allocator
	frame int
	e     int
}

func refuse(e int) outcome { return outcome{e: e} }

func (o outcome) same(p outcome) bool { return o.frame == p.frame && o.e == p.e && same(o.a, p.a) }

// action is a call of a function, and a direct reading of its promise for a valid allocator.
type action struct {
	what string
	do   func(a api.Allocator) outcome
	read func(a api.Allocator) outcome
}

func allocAction(cpu int, kernel, reserve bool) action {
	return action{fmt.Sprintf("Alloc(%d, %t, %t)", cpu, kernel, reserve), func(a api.Allocator) outcome {
		out, frame, e := Alloc(a, cpu, kernel, reserve)
		return outcome{out, frame, e}
	}, func(a api.Allocator) outcome {
		if cpu < 0 || cpu > len(a.Nodes)-1 {
			return refuse(api.ErrRange)
		}
		order, _ := zonelist.Order(a.Zones, a.Nodes[cpu], kernel)
		for _, zone := range order {
			isPassedOver := room(a, zone) < 1
			if reserve {
				isPassedOver = len(freeFrames(a, zone)) == 0
			}
			if !isPassedOver {
				return takeOne(deepCopy(a), cpu, zone)
			}
		}
		return refuse(api.ErrMemory)
	}}
}

// takeOne takes a frame of a zone by a list that is filled if it is empty.
func takeOne(a api.Allocator, cpu, zone int) outcome {
	l := a.Caches[cpu].Lists[zone]
	if len(l) == 0 {
		if buddy.Count(a.Zones[zone]) == 0 {
			drainZone(a, zone)
		}
		for range a.Batch {
			z, frame, e := buddy.Alloc(a.Zones[zone], 0)
			if e == api.OK {
				a.Zones[zone] = z
				l = slices.Insert(l, 0, frame)
			}
		}
	}
	last := len(l) - 1
	a.Caches[cpu].Lists[zone] = l[:last]
	return outcome{a: a, frame: l[last]}
}

func blockAction(cpu, order int) action {
	return action{fmt.Sprintf("AllocBlock(%d, %d)", cpu, order), func(a api.Allocator) outcome {
		out, frame, e := AllocBlock(a, cpu, order)
		return outcome{out, frame, e}
	}, func(a api.Allocator) outcome {
		if cpu < 0 || cpu > len(a.Nodes)-1 || order < 0 || order > 4 {
			return refuse(api.ErrRange)
		}
		out := deepCopy(a)
		zones, _ := zonelist.Order(a.Zones, a.Nodes[cpu], false)
		for _, zone := range zones {
			if room(a, zone) < []int{1, 2, 4, 8, 16}[order] {
				continue
			}
			drainZone(out, zone)
			if z, frame, e := buddy.Alloc(out.Zones[zone], order); e == api.OK {
				out.Zones[zone] = z
				return outcome{a: out, frame: frame}
			}
		}
		return refuse(api.ErrMemory)
	}}
}

func freeAction(cpu, frame int) action {
	return action{fmt.Sprintf("Free(%d, %d)", cpu, frame), func(a api.Allocator) outcome {
		out, e := Free(a, cpu, frame)
		return outcome{a: out, e: e}
	}, func(a api.Allocator) outcome {
		zone := zoneAt(a, frame)
		if cpu < 0 || cpu > len(a.Nodes)-1 || zone == -1 {
			return refuse(api.ErrRange)
		}
		if isFreeFrame(a, frame) {
			return refuse(api.ErrExist)
		}
		out := deepCopy(a)
		l := append(out.Caches[cpu].Lists[zone], frame)
		if len(l) > a.High {
			setZone(out, zone, slices.Concat(buddy.Frames(a.Zones[zone]), l[:a.Batch]))
			l = l[a.Batch:]
		}
		out.Caches[cpu].Lists[zone] = l
		return outcome{a: out}
	}}
}

func freeBlockAction(frame, order int) action {
	return action{fmt.Sprintf("FreeBlock(%d, %d)", frame, order), func(a api.Allocator) outcome {
		out, e := FreeBlock(a, frame, order)
		return outcome{a: out, e: e}
	}, func(a api.Allocator) outcome {
		zone := zoneAt(a, frame)
		if order < 0 || order > 4 || zone == -1 {
			return refuse(api.ErrRange)
		}
		size := []int{1, 2, 4, 8, 16}[order]
		if frame%size != 0 || zoneAt(a, frame+size-1) != zone {
			return refuse(api.ErrRange)
		}
		out := deepCopy(a)
		frames := buddy.Frames(a.Zones[zone])
		for f := frame; f < frame+size; f++ {
			if isFreeFrame(a, f) {
				return refuse(api.ErrExist)
			}
			frames = append(frames, f)
		}
		setZone(out, zone, frames)
		return outcome{a: out}
	}}
}

func takeAction(frame int) action {
	return action{fmt.Sprintf("Take(%d)", frame), func(a api.Allocator) outcome {
		out, e := Take(a, frame)
		return outcome{a: out, e: e}
	}, func(a api.Allocator) outcome {
		zone := zoneAt(a, frame)
		switch {
		case zone == -1:
			return refuse(api.ErrRange)
		case !isFreeFrame(a, frame):
			return refuse(api.ErrNone)
		case room(a, zone) < 1:
			return refuse(api.ErrMemory)
		}
		out := deepCopy(a)
		isOther := func(f int) bool { return f != frame }
		setZone(out, zone, keep(buddy.Frames(a.Zones[zone]), isOther))
		for _, c := range out.Caches {
			c.Lists[zone] = keep(c.Lists[zone], isOther)
		}
		return outcome{a: out}
	}}
}

func keep(l []int, is func(int) bool) []int {
	var out []int
	for _, n := range l {
		if is(n) {
			out = append(out, n)
		}
	}
	return out
}

// expect compares an action for any allocator with the direct reading of its promise.
func expect(t *testing.T, a api.Allocator, act action) outcome {
	t.Helper()
	got, want := act.do(a), refuse(checked(a))
	if want.e == api.OK {
		want = act.read(a)
	}
	if !got.same(want) {
		t.Fatalf("%s of %v = %v, want %v", act.what, a, got, want)
	}
	if got.e == api.OK && (Check(got.a) != api.OK || checked(got.a) != api.OK) {
		t.Fatalf("%s of %v = %v, which is not valid", act.what, a, got)
	}
	return got
}

// expectLooks compares Check and Drain, and the functions of P17.8 for these frames and zones, with their promises.
func expectLooks(t *testing.T, a api.Allocator, frames, zones []int) {
	t.Helper()
	e := Check(a)
	if want := checked(a); e != want {
		t.Fatalf("Check(%v) = %d, want %d", a, e, want)
	}
	isValid := e == api.OK
	expectDrain(t, a, isValid)
	normal, all := Headroom(a)
	wantNormal, wantAll := headroom(a, isValid)
	if normal != wantNormal || all != wantAll {
		t.Fatalf("Headroom(%v) = %d, %d, want %d, %d", a, normal, all, wantNormal, wantAll)
	}
	total := 0
	for zone := range a.Zones {
		total += a.Zones[zone].Count
	}
	if got := Frames(a); isValid && got != total || !isValid && got != 0 {
		t.Fatalf("Frames(%v) = %d", a, got)
	}
	for _, frame := range frames {
		if got, want := IsFree(a, frame), isValid && isFreeFrame(a, frame); got != want {
			t.Fatalf("IsFree(%v, %d) = %t", a, frame, got)
		}
		want := -1
		if isValid {
			want = zoneAt(a, frame)
		}
		if got := Zone(a, frame); got != want {
			t.Fatalf("Zone(%v, %d) = %d, want %d", a, frame, got, want)
		}
	}
	for _, zone := range zones {
		want := 0
		if isValid && zone >= 0 && zone <= len(a.Zones)-1 {
			want = len(freeFrames(a, zone))
		}
		if got := Count(a, zone); got != want {
			t.Fatalf("Count(%v, %d) = %d, want %d", a, zone, got, want)
		}
	}
}

// expectDrain compares Drain with its promise.
func expectDrain(t *testing.T, a api.Allocator, isValid bool) {
	t.Helper()
	want := api.Allocator{}
	if isValid {
		want = deepCopy(a)
		for zone := range want.Zones {
			drainZone(want, zone)
		}
	}
	got := Drain(a)
	if !same(got, want) {
		t.Fatalf("Drain(%v) = %v, want %v", a, got, want)
	}
	if isValid && Check(got) != api.OK {
		t.Fatalf("Drain(%v) = %v, which is not valid", a, got)
	}
}

// headroom is the promise of Headroom.
func headroom(a api.Allocator, isValid bool) (int, int) {
	normal, all := 0, 0
	for zone := range a.Zones {
		if !isValid {
			return 0, 0
		}
		all += room(a, zone)
		if a.Zones[zone].Kind == api.ZoneNormal {
			normal += room(a, zone)
		}
	}
	return normal, all
}

func deepCopy(a api.Allocator) api.Allocator {
	out := api.Allocator{Nodes: slices.Clone(a.Nodes), Batch: a.Batch, High: a.High}
	for _, z := range a.Zones {
		for order, l := range z.Free {
			z.Free[order] = slices.Clone(l)
		}
		out.Zones = append(out.Zones, z)
	}
	for _, c := range a.Caches {
		var lists [][]int
		for _, l := range c.Lists {
			lists = append(lists, slices.Clone(l))
		}
		out.Caches = append(out.Caches, api.CpuCache{Lists: lists})
	}
	return out
}

// same reports whether two allocators are equal, where nil and empty lists are the same.
func same(a, b api.Allocator) bool {
	sameZone := func(y, z api.Zone) bool {
		sameFields := y.Node == z.Node && y.Kind == z.Kind && y.Start == z.Start && y.Count == z.Count && y.Min == z.Min
		return sameFields && slices.EqualFunc(y.Free[:], z.Free[:], slices.Equal[[]int])
	}
	sameCache := func(c, d api.CpuCache) bool { return slices.EqualFunc(c.Lists, d.Lists, slices.Equal[[]int]) }
	sameFields := slices.Equal(a.Nodes, b.Nodes) && a.Batch == b.Batch && a.High == b.High
	return sameFields && slices.EqualFunc(a.Zones, b.Zones, sameZone) && slices.EqualFunc(a.Caches, b.Caches, sameCache)
}
