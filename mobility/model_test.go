package mobility

import (
	"fmt"
	"slices"
	"testing"

	"estovers/api"
)

// frameSet contains the frames that are true.
type frameSet [256]bool

// lists are the lists of page blocks, Types first.
func lists(p *api.PageBlocks) []*[]int {
	out := []*[]int{&p.Types}
	for kind := range p.Free {
		for order := range p.Free[kind] {
			out = append(out, &p.Free[kind][order])
		}
	}
	return out
}

func deepCopy(p api.PageBlocks) api.PageBlocks {
	for _, l := range lists(&p) {
		*l = slices.Clone(*l)
	}
	return p
}

// same reports whether two values are equal, where nil and empty lists are the same.
func same(a, b api.PageBlocks) bool {
	for i, l := range lists(&a) {
		if !slices.Equal(*l, *lists(&b)[i]) {
			return false
		}
	}
	return a.Start == b.Start
}

// inRange is the condition for Start and Types.
func inRange(p api.PageBlocks) bool {
	for _, kind := range p.Types {
		if kind != api.TypeMovable && kind != api.TypeUnmovable && kind != api.TypeReclaimable {
			return false
		}
	}
	n := len(p.Types)
	return p.Start%16 == 0 && p.Start >= 0 && p.Start <= 240 && n >= 1 && n <= 16 && p.Start/16+n <= 16
}

// kindAt returns the type of the page block of a frame, or -1.
func kindAt(p api.PageBlocks, frame int) int {
	for i, kind := range p.Types {
		for j := range 16 {
			if frame == p.Start+16*i+j {
				return kind
			}
		}
	}
	return -1
}

// setOf returns the frames of the free blocks of valid page blocks.
func setOf(p api.PageBlocks) frameSet {
	var set frameSet
	for _, free := range p.Free {
		for order, l := range free {
			for _, frame := range l {
				set.put(frame, order, true)
			}
		}
	}
	return set
}

// put adds the frames of a block, or removes them.
func (set *frameSet) put(frame, order int, on bool) {
	for i := range 1 << order {
		set[frame+i] = on
	}
}

// count returns how many frames of a block are in the set.
func (set *frameSet) count(frame, order int) int {
	n := 0
	for i := range 1 << order {
		if set[frame+i] {
			n++
		}
	}
	return n
}

// canonical returns page blocks whose free blocks are the greatest blocks of a set of frames.
func canonical(start int, types []int, set frameSet) api.PageBlocks {
	p := api.PageBlocks{Start: start, Types: slices.Clone(types)}
	for i, kind := range types {
		for order := range 5 {
			size := 1 << order
			for frame := start + 16*i; frame < start+16*i+16; frame += size {
				isPart := order < 4 && set.count(frame-frame%(2*size), order+1) == 2*size
				if set.count(frame, order) == size && !isPart {
					p.Free[kind][order] = append(p.Free[kind][order], frame)
				}
			}
		}
	}
	return p
}

// isValid is the definition of valid page blocks.
func isValid(p api.PageBlocks) bool {
	if !inRange(p) {
		return false
	}
	for _, l := range lists(&p)[1:] {
		if slices.ContainsFunc(*l, func(frame int) bool { return frame < p.Start || frame+16 > p.Start+16*len(p.Types)+15 }) {
			return false
		}
	}
	return same(p, canonical(p.Start, p.Types, setOf(p)))
}

// checked is the promise of Check.
func checked(p api.PageBlocks) int {
	if !inRange(p) {
		return api.ErrRange
	}
	for kind := range 3 {
		for order := range 5 {
			for i, frame := range p.Free[kind][order] {
				if frame%(1<<order) != 0 || kindAt(p, frame) != kind {
					return api.ErrForm
				}
				if i > 0 && p.Free[kind][order][i-1] >= frame {
					return api.ErrOrder
				}
			}
		}
	}
	owners := map[int]int{}
	hasBuddies := false
	for _, free := range p.Free {
		for order, l := range free {
			for _, frame := range l {
				for i := range 1 << order {
					owners[frame+i]++
				}
				hasBuddies = hasBuddies || order < 4 && frame%(2<<order) == 0 && slices.Contains(l, frame+1<<order)
			}
		}
	}
	for _, n := range owners {
		if n > 1 {
			return api.ErrExist
		}
	}
	if hasBuddies {
		return api.ErrState
	}
	return api.OK
}

// outcome is the result of a function.
type outcome struct {
	p     api.PageBlocks
	frame int
	e     int
}

func (o outcome) same(other outcome) bool {
	return o.frame == other.frame && o.e == other.e && same(o.p, other.p)
}

func refuse(e int) outcome { return outcome{e: e} }

// action is a call of a function, and a direct reading of its promise for valid page blocks.
type action struct {
	what string
	do   func(p api.PageBlocks) outcome
	read func(p api.PageBlocks) outcome
}

func allocAction(order, kind int) action {
	return action{fmt.Sprintf("Alloc(%d, %d)", order, kind), func(p api.PageBlocks) outcome {
		out, frame, e := Alloc(p, order, kind)
		return outcome{out, frame, e}
	}, func(p api.PageBlocks) outcome { return allocated(p, order, kind) }}
}

// allocated is the promise of Alloc.
func allocated(p api.PageBlocks, order, kind int) outcome {
	if order < 0 || order > 4 {
		return refuse(api.ErrRange)
	}
	if kind < 0 || kind > 2 {
		return refuse(api.ErrArg)
	}
	take := func(frame int, types []int) outcome {
		set := setOf(p)
		set.put(frame, order, false)
		return outcome{p: canonical(p.Start, types, set), frame: frame}
	}
	for k := order; k <= 4; k++ {
		if len(p.Free[kind][k]) > 0 {
			return take(p.Free[kind][k][0], p.Types)
		}
	}
	for k := 4; k >= order; k-- {
		for _, other := range map[int][]int{api.TypeMovable: {2, 1}, api.TypeUnmovable: {2, 0}, api.TypeReclaimable: {1, 0}}[kind] {
			if len(p.Free[other][k]) == 0 {
				continue
			}
			frame, types := p.Free[other][k][0], slices.Clone(p.Types)
			if k == 3 || k == 4 {
				types[frame/16-p.Start/16] = kind
			}
			return take(frame, types)
		}
	}
	return refuse(api.ErrMemory)
}

func freeAction(frame, order int) action {
	return action{fmt.Sprintf("Free(%d, %d)", frame, order), func(p api.PageBlocks) outcome {
		out, e := Free(p, frame, order)
		return outcome{p: out, e: e}
	}, func(p api.PageBlocks) outcome {
		if order < 0 || order > 4 || kindAt(p, frame) < 0 || frame%(1<<order) != 0 {
			return refuse(api.ErrRange)
		}
		set := setOf(p)
		if set.count(frame, order) > 0 {
			return refuse(api.ErrExist)
		}
		set.put(frame, order, true)
		return outcome{p: canonical(p.Start, p.Types, set)}
	}}
}

func convertAction(frame, kind int) action {
	return action{fmt.Sprintf("Convert(%d, %d)", frame, kind), func(p api.PageBlocks) outcome {
		out, e := Convert(p, frame, kind)
		return outcome{p: out, e: e}
	}, func(p api.PageBlocks) outcome {
		if kindAt(p, frame) < 0 {
			return refuse(api.ErrRange)
		}
		if kind < 0 || kind > 2 {
			return refuse(api.ErrArg)
		}
		types := slices.Clone(p.Types)
		types[(frame-p.Start)/16] = kind
		return outcome{p: canonical(p.Start, types, setOf(p))}
	}}
}

// expect compares an action for any page blocks with the direct reading of its promise.
func expect(t *testing.T, p api.PageBlocks, a action) outcome {
	t.Helper()
	got, want := a.do(p), refuse(checked(p))
	if want.e == api.OK {
		want = a.read(p)
	}
	if !got.same(want) {
		t.Fatalf("%s of %v = %v, want %v", a.what, p, got, want)
	}
	if got.e == api.OK && Check(got.p) != api.OK {
		t.Fatalf("%s of %v = %v, which is not valid", a.what, p, got)
	}
	return got
}

// expectLooks compares Check, Type and Count with their promises.
func expectLooks(t *testing.T, p api.PageBlocks) {
	t.Helper()
	e := checked(p)
	if got := Check(p); got != e {
		t.Fatalf("Check(%v) = %d, want %d", p, got, e)
	}
	for _, frame := range numbers() {
		want := -1
		if e == api.OK {
			want = kindAt(p, frame)
		}
		if got := Type(p, frame); got != want {
			t.Fatalf("Type(%v, %d) = %d, want %d", p, frame, got, want)
		}
	}
	for _, kind := range kinds() {
		want := 0
		if e == api.OK {
			for frame, isFree := range setOf(p) {
				if isFree && kindAt(p, frame) == kind {
					want++
				}
			}
		}
		if got := Count(p, kind); got != want {
			t.Fatalf("Count(%v, %d) = %d, want %d", p, kind, got, want)
		}
	}
}

// mixed is the promise of Mixed.
func mixed(p api.PageBlocks, held []int) (int, int) {
	if e := checked(p); e != api.OK {
		return 0, e
	}
	if len(held) != 16*len(p.Types) {
		return 0, api.ErrForm
	}
	blocks := map[int]bool{}
	for i, kind := range held {
		if !slices.Contains([]int{-1, 0, 1, 2}, kind) {
			return 0, api.ErrArg
		}
		if kind != -1 && kind != kindAt(p, p.Start+i) {
			blocks[i/16] = true
		}
	}
	return len(blocks), api.OK
}

// expectMixed compares Mixed with its promise.
func expectMixed(t *testing.T, p api.PageBlocks, held []int) int {
	t.Helper()
	n, e := Mixed(p, held)
	if want, wantError := mixed(p, held); n != want || e != wantError {
		t.Fatalf("Mixed(%v, %v) = %d, %d, want %d, %d", p, held, n, e, want, wantError)
	}
	return e
}
