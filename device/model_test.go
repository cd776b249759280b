package device

import (
	"bytes"
	"fmt"
	"slices"
	"testing"

	"estovers/api"
)

// page is a page of one letter.
func page(letter byte) []byte { return bytes.Repeat([]byte{letter}, 32) }

// checked is the promise of Check.
func checked(d api.Device) int {
	if d.Depth < 1 || d.Depth > 16 || d.Next < 0 || d.Next > 1<<40 || len(d.Blocks) < 1 || len(d.Blocks) > 256 {
		return api.ErrRange
	}
	for _, data := range d.Blocks {
		if len(data) != 32 {
			return api.ErrForm
		}
	}
	last := -1
	for _, c := range d.Cache {
		if c.Block <= last || c.Block >= len(d.Blocks) {
			return api.ErrOrder
		}
		last = c.Block
	}
	for _, c := range d.Cache {
		if len(c.Data) != 32 {
			return api.ErrForm
		}
	}
	if len(d.Queue) > d.Depth {
		return api.ErrFull
	}
	last = -1
	for _, r := range d.Queue {
		if e := requested(d, r.Kind, r.Block, r.Data); e != api.OK {
			return e
		}
		if r.Id <= last || r.Id >= d.Next {
			return api.ErrOrder
		}
		last = r.Id
	}
	return api.OK
}

// requested is what Check says of a request, but for its Id.
func requested(d api.Device, kind, block int, data []byte) int {
	length, blocks := 0, len(d.Blocks)
	switch kind {
	case api.RequestRead:
	case api.RequestWrite:
		length = 32
	case api.RequestFlush:
		blocks = 1
	default:
		return api.ErrArg
	}
	if block < 0 || block >= blocks {
		return api.ErrRange
	}
	if len(data) != length {
		return api.ErrForm
	}
	return api.OK
}

// outcome is the result of a function.
type outcome struct {
	d  api.Device
	id int
	r  api.Request
	e  int
}

func (o outcome) same(p outcome) bool {
	return o.id == p.id && o.e == p.e && sameRequest(o.r, p.r) && same(o.d, p.d)
}

// action is a call of a function, and a direct reading of its promise for a valid device.
type action struct {
	what string
	do   func(d api.Device) outcome
	read func(d api.Device) outcome
}

func refuse(e int) outcome { return outcome{e: e} }

func submitAction(kind, block int, data []byte) action {
	return action{fmt.Sprintf("Submit(%d, %d, %q)", kind, block, data), func(d api.Device) outcome {
		out, id, e := Submit(d, kind, block, data)
		return outcome{d: out, id: id, e: e}
	}, func(d api.Device) outcome {
		if e := requested(d, kind, block, data); e != api.OK {
			return refuse(e)
		}
		if d.Next >= 1<<40 {
			return refuse(api.ErrLimit)
		}
		if len(d.Queue) >= d.Depth {
			return refuse(api.ErrFull)
		}
		out := deepCopy(d)
		out.Next = d.Next + 1
		out.Queue = append(out.Queue, api.Request{Id: d.Next, Kind: kind, Block: block, Data: data})
		return outcome{d: deepCopy(out), id: d.Next}
	}}
}

func completeAction(position int, ok bool) action {
	return action{fmt.Sprintf("Complete(%d, %t)", position, ok), func(d api.Device) outcome {
		out, r, e := Complete(d, position, ok)
		return outcome{d: out, r: r, e: e}
	}, func(d api.Device) outcome {
		if position < 0 || position >= len(d.Queue) {
			return refuse(api.ErrRange)
		}
		out := deepCopy(d)
		r := out.Queue[position]
		out.Queue = append(out.Queue[:position:position], out.Queue[position+1:]...)
		switch {
		case !ok:
		case r.Kind == api.RequestRead:
			r.Data = contentOf(d, r.Block)
		case r.Kind == api.RequestWrite:
			out.Cache = slices.DeleteFunc(out.Cache, func(c api.Cached) bool { return c.Block == r.Block })
			out.Cache = append(out.Cache, api.Cached{Block: r.Block, Data: r.Data})
			slices.SortFunc(out.Cache, func(a, b api.Cached) int { return a.Block - b.Block })
		default:
			for _, c := range d.Cache {
				out.Blocks[c.Block] = c.Data
			}
			out.Cache = nil
		}
		return outcome{d: deepCopy(out), r: r}
	}}
}

func crashAction(picks ...bool) action {
	return action{fmt.Sprintf("Crash(%v)", picks), func(d api.Device) outcome {
		out, e := Crash(d, picks)
		return outcome{d: out, e: e}
	}, func(d api.Device) outcome {
		out := deepCopy(d)
		next := 0
		pick := func() bool {
			next++
			return next <= len(picks) && picks[next-1]
		}
		for _, c := range d.Cache {
			if pick() {
				out.Blocks[c.Block] = c.Data
			}
		}
		for _, r := range d.Queue {
			if r.Kind == api.RequestWrite && pick() {
				out.Blocks[r.Block] = r.Data
			}
		}
		out.Cache, out.Queue = nil, nil
		return outcome{d: deepCopy(out)}
	}}
}

// contentOf and durableOf are the promises of Content and Durable for valid devices.
func contentOf(d api.Device, block int) []byte {
	for _, c := range d.Cache {
		if c.Block == block {
			return c.Data
		}
	}
	return durableOf(d, block)
}

func durableOf(d api.Device, block int) []byte {
	if block < 0 || block >= len(d.Blocks) {
		return nil
	}
	return d.Blocks[block]
}

// choicesOf is the promise of Choices for valid devices.
func choicesOf(d api.Device) int {
	n := len(d.Cache)
	for _, r := range d.Queue {
		if r.Kind == api.RequestWrite {
			n++
		}
	}
	return n
}

// outstanding reports whether a block has an outstanding write.
func outstanding(d api.Device, block int) bool {
	return slices.ContainsFunc(d.Queue, func(r api.Request) bool { return r.Kind == api.RequestWrite && r.Block == block })
}

func deepCopy(d api.Device) api.Device {
	out := api.Device{Depth: d.Depth, Next: d.Next, Cache: slices.Clone(d.Cache), Queue: slices.Clone(d.Queue), Blocks: slices.Clone(d.Blocks)}
	for i := range out.Blocks {
		out.Blocks[i] = slices.Clone(d.Blocks[i])
	}
	for i := range out.Cache {
		out.Cache[i].Data = slices.Clone(d.Cache[i].Data)
	}
	for i := range out.Queue {
		out.Queue[i].Data = slices.Clone(d.Queue[i].Data)
	}
	return out
}

// same reports whether two devices are equal, where nil and empty lists are the same.
func same(a, b api.Device) bool {
	isSameCached := func(x, y api.Cached) bool { return x.Block == y.Block && bytes.Equal(x.Data, y.Data) }
	return a.Depth == b.Depth && a.Next == b.Next && slices.EqualFunc(a.Blocks, b.Blocks, bytes.Equal) && slices.EqualFunc(a.Cache, b.Cache, isSameCached) && slices.EqualFunc(a.Queue, b.Queue, sameRequest)
}

func sameRequest(a, b api.Request) bool {
	return a.Id == b.Id && a.Kind == b.Kind && a.Block == b.Block && bytes.Equal(a.Data, b.Data)
}

// expect compares an action with the direct reading of its promise.
func expect(t *testing.T, d api.Device, a action) outcome {
	t.Helper()
	got, want := a.do(d), refuse(checked(d))
	if want.e == api.OK {
		want = a.read(d)
	}
	if !got.same(want) {
		t.Fatalf("%s of %v = %v, want %v", a.what, d, got, want)
	}
	if got.e == api.OK && (checked(got.d) != api.OK || Check(got.d) != api.OK) {
		t.Fatalf("%s of %v = %v, which is not valid", a.what, d, got)
	}
	return got
}

// expectLooks compares Check, Content, Durable and Choices with their promises.
func expectLooks(t *testing.T, d api.Device) {
	t.Helper()
	e := checked(d)
	if got := Check(d); got != e {
		t.Fatalf("Check(%v) = %d, want %d", d, got, e)
	}
	choices := 0
	if e == api.OK {
		choices = choicesOf(d)
	}
	if got := Choices(d); got != choices {
		t.Fatalf("Choices(%v) = %d, want %d", d, got, choices)
	}
	for _, block := range append(noBlocks(d), 0, 1, 2, 3, len(d.Blocks)-1) {
		var content, durable []byte
		if e == api.OK {
			content, durable = contentOf(d, block), durableOf(d, block)
		}
		gotContent, gotDurable := Content(d, block), Durable(d, block)
		if !bytes.Equal(gotContent, content) || !bytes.Equal(gotDurable, durable) {
			t.Fatalf("of block %d of %v: Content = %v, Durable = %v", block, d, gotContent, gotDurable)
		}
		if content == nil && (gotContent != nil || gotDurable != nil) {
			t.Fatalf("of block %d of %v: Content = %v, Durable = %v, want nil", block, d, gotContent, gotDurable)
		}
	}
}
