package durable

import (
	"bytes"
	"math"
	"slices"
	"testing"

	"estovers/api"
)

// page is a page of one letter.
func page(letter byte) []byte { return bytes.Repeat([]byte{letter}, 32) }

// pages are pages of one letter each.
func pages(letters string) [][]byte {
	var out [][]byte
	for i := range len(letters) {
		out = append(out, page(letters[i]))
	}
	return out
}

// letters is the inverse of pages.
func letters(pages [][]byte) string {
	out := ""
	for _, data := range pages {
		if len(data) != 32 || !bytes.Equal(data, page(data[0])) {
			return out + "?"
		}
		out += string(data[:1])
	}
	return out
}

func write(id, block int, letter byte) api.IoEvent {
	return api.IoEvent{Kind: api.IoWrite, Id: id, Block: block, Data: page(letter)}
}

func done(id int) api.IoEvent { return api.IoEvent{Kind: api.IoDone, Id: id} }

func flush() api.IoEvent { return api.IoEvent{Kind: api.IoFlush} }

// checked is the promise of Check.
func checked(blocks [][]byte, l []api.IoEvent) int {
	for _, data := range blocks {
		if len(data) != 32 {
			return api.ErrForm
		}
	}
	for i := range l {
		if e := checkedEvent(len(blocks), l[:i], l[i]); e != api.OK {
			return e
		}
	}
	return api.OK
}

func checkedEvent(blocks int, before []api.IoEvent, v api.IoEvent) int {
	switch {
	case v.Kind != api.IoWrite && v.Kind != api.IoDone && v.Kind != api.IoFlush:
		return api.ErrArg
	case v.Kind != api.IoWrite && (v.Block != 0 || len(v.Data) != 0):
		return api.ErrArg
	case v.Kind == api.IoFlush && v.Id != 0:
		return api.ErrArg
	case v.Kind == api.IoFlush:
		return api.OK
	}
	submitted, completed := false, false
	for _, w := range before {
		submitted = submitted || w.Kind == api.IoWrite && w.Id == v.Id
		completed = completed || w.Kind == api.IoDone && w.Id == v.Id
	}
	if v.Kind == api.IoDone {
		if submitted && !completed {
			return api.OK
		}
		return api.ErrNone
	}
	if v.Block < 0 || v.Block >= blocks {
		return api.ErrRange
	}
	if len(v.Data) != 32 {
		return api.ErrForm
	}
	if submitted {
		return api.ErrExist
	}
	return api.OK
}

// never is the place of an event that is not in a history.
const never = math.MaxInt

// doneAt returns the place of the completion of a write in a valid history.
func doneAt(l []api.IoEvent, id int) int {
	for i, v := range l {
		if v.Kind == api.IoDone && v.Id == id {
			return i
		}
	}
	return never
}

// lastFlush returns the place of the last flush of a history, or -1.
func lastFlush(l []api.IoEvent) int {
	last := -1
	for i, v := range l {
		if v.Kind == api.IoFlush {
			last = i
		}
	}
	return last
}

// lastBetween returns the Data of the write to a block that is the last to complete behind one place and before another; nil if there is none.
func lastBetween(l []api.IoEvent, block, from, to int) []byte {
	var data []byte
	last := from
	for _, v := range l {
		if v.Kind != api.IoWrite || v.Block != block {
			continue
		}
		if at := doneAt(l, v.Id); at > last && at < to {
			last, data = at, v.Data
		}
	}
	return data
}

// durableOf returns the durable content of a block after a valid history.
func durableOf(blocks [][]byte, l []api.IoEvent, block int) []byte {
	if data := lastBetween(l, block, -1, lastFlush(l)); data != nil {
		return data
	}
	return blocks[block]
}

// latestOf returns the latest content of a block after a valid history.
func latestOf(blocks [][]byte, l []api.IoEvent, block int) []byte {
	if data := lastBetween(l, block, lastFlush(l), never); data != nil {
		return data
	}
	return durableOf(blocks, l, block)
}

// choicesOf returns the possible contents of a block after a valid history.
func choicesOf(blocks [][]byte, l []api.IoEvent, block int) [][]byte {
	out := [][]byte{durableOf(blocks, l, block)}
	if data := lastBetween(l, block, lastFlush(l), never); data != nil {
		out = append(out, data)
	}
	for _, v := range l {
		if v.Kind == api.IoWrite && v.Block == block && doneAt(l, v.Id) == never {
			out = append(out, v.Data)
		}
	}
	for i := 0; i < len(out); i++ {
		isBefore := func(data []byte) bool { return bytes.Equal(data, out[i]) }
		if slices.ContainsFunc(out[:i], isBefore) {
			out = slices.Delete(out, i, i+1)
			i--
		}
	}
	return out
}

// imagesOf returns the images with one of the contents for each block, or ErrLimit if there are more than 64.
func imagesOf(choices [][][]byte) ([][][]byte, int) {
	images := [][][]byte{{}}
	for _, contents := range choices {
		var longer [][][]byte
		for _, image := range images {
			for _, data := range contents {
				longer = append(longer, append(slices.Clone(image), data))
			}
		}
		images = longer
		if len(images) > 64 {
			return nil, api.ErrLimit
		}
	}
	return images, api.OK
}

// orderedOf is the promise of Ordered for a valid history.
func orderedOf(l []api.IoEvent, a, b int) (bool, int) {
	isThere := func(id int) bool {
		return slices.ContainsFunc(l, func(v api.IoEvent) bool { return v.Kind == api.IoWrite && v.Id == id })
	}
	if !isThere(a) || !isThere(b) {
		return false, api.ErrNone
	}
	for i, v := range l {
		isAfter := doneAt(l, a) < i
		isBefore := slices.ContainsFunc(l[i:], func(v api.IoEvent) bool { return v.Kind == api.IoWrite && v.Id == b })
		if v.Kind == api.IoFlush && isAfter && isBefore {
			return true, api.OK
		}
	}
	return false, api.OK
}

func sameImages(a, b [][][]byte) bool {
	return slices.EqualFunc(a, b, func(x, y [][]byte) bool { return slices.EqualFunc(x, y, bytes.Equal) })
}

// noBlocks are numbers that are no blocks.
func noBlocks(blocks [][]byte) []int {
	return []int{math.MinInt, -1, len(blocks), len(blocks) + 1, 1 << 32, math.MaxInt}
}

// expect compares all functions but Allows and Ordered with their promises.
func expect(t *testing.T, blocks [][]byte, l []api.IoEvent) {
	t.Helper()
	e := checked(blocks, l)
	if got := Check(blocks, l); got != e {
		t.Fatalf("Check(%q, %v) = %d, want %d", blocks, l, got, e)
	}
	var latest, durable [][]byte
	var choices, images [][][]byte
	imagesError := e
	if e == api.OK {
		for block := range blocks {
			latest = append(latest, latestOf(blocks, l, block))
			durable = append(durable, durableOf(blocks, l, block))
			choices = append(choices, choicesOf(blocks, l, block))
		}
		images, imagesError = imagesOf(choices)
	}
	if got, gotError := Latest(blocks, l); gotError != e || !slices.EqualFunc(got, latest, bytes.Equal) {
		t.Fatalf("Latest(%q, %v) = %q, %d, want %q, %d", blocks, l, got, gotError, latest, e)
	}
	if got, gotError := Durable(blocks, l); gotError != e || !slices.EqualFunc(got, durable, bytes.Equal) {
		t.Fatalf("Durable(%q, %v) = %q, %d, want %q, %d", blocks, l, got, gotError, durable, e)
	}
	if got, gotError := Images(blocks, l); gotError != imagesError || !sameImages(got, images) {
		t.Fatalf("Images(%q, %v) = %q, %d, want %q, %d", blocks, l, got, gotError, images, imagesError)
	}
	for block := range blocks {
		got, gotError := Choices(blocks, l, block)
		if gotError != e || e == api.OK && !slices.EqualFunc(got, choices[block], bytes.Equal) || e != api.OK && got != nil {
			t.Fatalf("Choices(%q, %v, %d) = %q, %d, want %d", blocks, l, block, got, gotError, e)
		}
	}
	expectNoChoices(t, blocks, l, e)
}

// expectNoChoices calls Choices for numbers that are no blocks.
func expectNoChoices(t *testing.T, blocks [][]byte, l []api.IoEvent, e int) {
	t.Helper()
	if e == api.OK {
		e = api.ErrRange
	}
	for _, block := range noBlocks(blocks) {
		if got, gotError := Choices(blocks, l, block); gotError != e || got != nil {
			t.Fatalf("Choices(%q, %v, %d) = %q, %d, want %d", blocks, l, block, got, gotError, e)
		}
	}
}

// expectAllows compares Allows with its promise.
func expectAllows(t *testing.T, blocks [][]byte, l []api.IoEvent, image [][]byte) {
	t.Helper()
	e := checked(blocks, l)
	want := e == api.OK && len(image) == len(blocks)
	for block := 0; want && block < len(blocks); block++ {
		want = slices.ContainsFunc(choicesOf(blocks, l, block), func(data []byte) bool { return bytes.Equal(data, image[block]) })
	}
	if got, gotError := Allows(blocks, l, image); got != want || gotError != e {
		t.Fatalf("Allows(%q, %v, %q) = %t, %d, want %t, %d", blocks, l, image, got, gotError, want, e)
	}
}

// expectOrdered compares Ordered with its promise.
func expectOrdered(t *testing.T, blocks [][]byte, l []api.IoEvent, a, b int) {
	t.Helper()
	want, e := false, checked(blocks, l)
	if e == api.OK {
		want, e = orderedOf(l, a, b)
	}
	if got, gotError := Ordered(blocks, l, a, b); got != want || gotError != e {
		t.Fatalf("Ordered(%q, %v, %d, %d) = %t, %d, want %t, %d", blocks, l, a, b, got, gotError, want, e)
	}
}

// expectConsequences tests what P11.6 says of a valid history.
func expectConsequences(t *testing.T, blocks [][]byte, l []api.IoEvent) {
	t.Helper()
	latest, _ := Latest(blocks, l)
	durable, _ := Durable(blocks, l)
	for _, image := range [][][]byte{latest, durable} {
		if ok, e := Allows(blocks, l, image); !ok || e != api.OK {
			t.Fatalf("Allows(%q, %v, %q) = %t, %d", blocks, l, image, ok, e)
		}
	}
	isComplete := true
	for _, v := range l {
		isComplete = isComplete && (v.Kind != api.IoWrite || doneAt(l, v.Id) != never)
	}
	if isComplete {
		flushed := append(slices.Clone(l), flush())
		images, e := Images(blocks, flushed)
		if e != api.OK || !sameImages(images, [][][]byte{latest}) {
			t.Fatalf("Images(%q, %v) = %q, %d, want only %q", blocks, flushed, images, e, latest)
		}
	}
	for _, a := range l {
		for i, b := range l {
			if a.Kind != api.IoWrite || b.Kind != api.IoWrite {
				continue
			}
			if ok, _ := Ordered(blocks, l, a.Id, b.Id); ok {
				expectBehind(t, blocks, l, a, i+1)
			}
		}
	}
}

// expectBehind tests that the possible contents of the block of a write, after the first events and more of a history, are its Data or those of writes that were not complete when it was completed.
func expectBehind(t *testing.T, blocks [][]byte, l []api.IoEvent, a api.IoEvent, least int) {
	t.Helper()
	for n := least; n <= len(l); n++ {
		contents, _ := Choices(blocks, l[:n], a.Block)
		for _, data := range contents {
			isExpected := func(v api.IoEvent) bool {
				return v.Kind == api.IoWrite && v.Block == a.Block && bytes.Equal(v.Data, data) && doneAt(l, v.Id) >= doneAt(l, a.Id)
			}
			if !slices.ContainsFunc(l[:n], isExpected) {
				t.Fatalf("after %v the write %d leaves %q possible", l[:n], a.Id, data)
			}
		}
	}
}
