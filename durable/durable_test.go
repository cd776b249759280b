package durable

import (
	"bytes"
	"maps"
	"math"
	"math/rand"
	"slices"
	"testing"

	"estovers/api"
	"estovers/device"
)

// P11.1, with literal errors.
func TestCheckErrors(t *testing.T) {
	odd := func(length int) [][]byte { return [][]byte{page('A'), make([]byte, length), page('B')} }
	with := func(kind, id, block int, data []byte) api.IoEvent {
		return api.IoEvent{Kind: kind, Id: id, Block: block, Data: data}
	}
	first := write(1, 0, 'C')
	for _, c := range []struct {
		what   string
		blocks [][]byte
		l      []api.IoEvent
		want   int
	}{
		{"nothing", nil, nil, api.OK},
		{"no events", pages("AB"), nil, api.OK},
		{"an empty block", odd(0), nil, api.ErrForm},
		{"a short block", odd(31), nil, api.ErrForm},
		{"a long block", odd(33), []api.IoEvent{{Kind: 9}}, api.ErrForm},
		{"kind 0", pages("AB"), []api.IoEvent{{}}, api.ErrArg},
		{"kind 4", pages("AB"), []api.IoEvent{with(4, 1, 0, page('C'))}, api.ErrArg},
		{"kind -1", pages("AB"), []api.IoEvent{{Kind: -1}}, api.ErrArg},
		{"a write", pages("AB"), []api.IoEvent{first}, api.OK},
		{"a write to the last block", pages("AB"), []api.IoEvent{write(1, 1, 'C')}, api.OK},
		{"a write with the Id 0", pages("AB"), []api.IoEvent{write(0, 0, 'C')}, api.OK},
		{"a write with the least Id", pages("AB"), []api.IoEvent{write(math.MinInt, 0, 'C'), done(math.MinInt)}, api.OK},
		{"a write with the greatest Id", pages("AB"), []api.IoEvent{write(math.MaxInt, 0, 'C'), done(math.MaxInt)}, api.OK},
		{"a write to no block", pages("AB"), []api.IoEvent{write(1, 2, 'C')}, api.ErrRange},
		{"a write to block -1", pages("AB"), []api.IoEvent{write(1, -1, 'C')}, api.ErrRange},
		{"a write to the greatest block", pages("AB"), []api.IoEvent{write(1, math.MaxInt, 'C')}, api.ErrRange},
		{"a write to a device without blocks", nil, []api.IoEvent{first}, api.ErrRange},
		{"a short write", pages("AB"), []api.IoEvent{with(api.IoWrite, 1, 0, make([]byte, 31))}, api.ErrForm},
		{"a long write", pages("AB"), []api.IoEvent{with(api.IoWrite, 1, 0, make([]byte, 33))}, api.ErrForm},
		{"a write of nothing", pages("AB"), []api.IoEvent{with(api.IoWrite, 1, 0, nil)}, api.ErrForm},
		{"a write of nothing to no block", pages("AB"), []api.IoEvent{with(api.IoWrite, 1, 2, nil)}, api.ErrRange},
		{"a write twice", pages("AB"), []api.IoEvent{first, write(1, 1, 'D')}, api.ErrExist},
		{"a write twice, complete", pages("AB"), []api.IoEvent{first, done(1), write(1, 1, 'D')}, api.ErrExist},
		{"a write twice, durable", pages("AB"), []api.IoEvent{first, done(1), flush(), write(1, 0, 'C')}, api.ErrExist},
		{"a short write twice", pages("AB"), []api.IoEvent{first, with(api.IoWrite, 1, 0, page('C')[:31])}, api.ErrForm},
		{"a write twice, to no block", pages("AB"), []api.IoEvent{first, write(1, 2, 'C')}, api.ErrRange},
		{"a completion", pages("AB"), []api.IoEvent{first, done(1)}, api.OK},
		{"a completion of nothing", pages("AB"), []api.IoEvent{done(1)}, api.ErrNone},
		{"a completion of another write", pages("AB"), []api.IoEvent{first, done(2)}, api.ErrNone},
		{"a completion twice", pages("AB"), []api.IoEvent{first, done(1), done(1)}, api.ErrNone},
		{"a completion before its write", pages("AB"), []api.IoEvent{done(1), first}, api.ErrNone},
		{"a completion with a block", pages("AB"), []api.IoEvent{first, with(api.IoDone, 1, 1, nil)}, api.ErrArg},
		{"a completion with data", pages("AB"), []api.IoEvent{first, with(api.IoDone, 1, 0, page('C'))}, api.ErrArg},
		{"a completion with one byte", pages("AB"), []api.IoEvent{first, with(api.IoDone, 1, 0, []byte{0})}, api.ErrArg},
		{"a completion with an empty list", pages("AB"), []api.IoEvent{first, with(api.IoDone, 1, 0, []byte{})}, api.OK},
		{"a completion of nothing with a block", pages("AB"), []api.IoEvent{with(api.IoDone, 7, -1, nil)}, api.ErrArg},
		{"a flush", pages("AB"), []api.IoEvent{flush(), flush()}, api.OK},
		{"a flush of a device without blocks", nil, []api.IoEvent{flush()}, api.OK},
		{"a flush with an Id", pages("AB"), []api.IoEvent{with(api.IoFlush, 1, 0, nil)}, api.ErrArg},
		{"a flush with a block", pages("AB"), []api.IoEvent{with(api.IoFlush, 0, 1, nil)}, api.ErrArg},
		{"a flush with data", pages("AB"), []api.IoEvent{with(api.IoFlush, 0, 0, []byte{0})}, api.ErrArg},
		{"a flush with an empty list", pages("AB"), []api.IoEvent{with(api.IoFlush, 0, 0, []byte{})}, api.OK},
		{"a flush is no completion", pages("AB"), []api.IoEvent{write(0, 0, 'C'), flush(), done(0)}, api.OK},
		{"a flush is no write", pages("AB"), []api.IoEvent{flush(), done(0)}, api.ErrNone},
		{"of two events the first", pages("AB"), []api.IoEvent{done(1), {Kind: 4}}, api.ErrNone},
		{"of two events the first, again", pages("AB"), []api.IoEvent{write(1, 2, 'C'), {Kind: 4}}, api.ErrRange},
	} {
		if e := Check(c.blocks, c.l); e != c.want {
			t.Errorf("%s: Check = %d, want %d", c.what, e, c.want)
		}
		expect(t, c.blocks, c.l)
		for _, image := range [][][]byte{nil, pages("AB"), pages("ABC"), c.blocks} {
			expectAllows(t, c.blocks, c.l, image)
		}
		for _, a := range []int{math.MinInt, -1, 0, 1, 2, math.MaxInt} {
			expectOrdered(t, c.blocks, c.l, a, 1)
			expectOrdered(t, c.blocks, c.l, 1, a)
		}
	}
}

// P11.1 to P11.4 and P11.6: all histories of few events, and one event behind those that are not valid.
func TestAllHistories(t *testing.T) {
	blocks := pages("AB")
	count := 0
	var extend func(l []api.IoEvent, next, more int)
	extend = func(l []api.IoEvent, next, more int) {
		count++
		expectHistory(t, blocks, l)
		if more == 0 {
			return
		}
		if Check(blocks, l) != api.OK {
			more = 1
		}
		for _, v := range []api.IoEvent{flush(), done(0), done(1), done(2)} {
			extend(append(slices.Clone(l), v), next, more-1)
		}
		for _, block := range []int{0, 1} {
			for _, letter := range []byte("AC") {
				extend(append(slices.Clone(l), write(next, block, letter)), next+1, more-1)
			}
		}
	}
	extend(nil, 0, 5)
	if count < 10000 {
		t.Errorf("only %d histories", count)
	}
}

// expectHistory compares all functions with their promises for a history with few blocks and the Ids 0 to 2.
func expectHistory(t *testing.T, blocks [][]byte, l []api.IoEvent) {
	t.Helper()
	expect(t, blocks, l)
	for _, image := range []string{"AB", "AC", "AA", "CB", "CC", "CA", "BA"} {
		expectAllows(t, blocks, l, pages(image))
	}
	for a := range 3 {
		for b := range 4 {
			expectOrdered(t, blocks, l, a, b)
		}
	}
	if Check(blocks, l) == api.OK {
		expectConsequences(t, blocks, l)
	}
}

// randomHistory returns a history that is valid but for few of its events, with few different contents.
func randomHistory(random *rand.Rand, blocks, length int) []api.IoEvent {
	var l []api.IoEvent
	var outstanding []int
	ids := random.Perm(2 * length)
	for i := range length {
		switch n := random.Intn(10); {
		case n < 5:
			outstanding = append(outstanding, ids[i]-length)
			l = append(l, write(ids[i]-length, random.Intn(blocks), byte('A'+random.Intn(12))))
		case n < 9 && len(outstanding) > 0:
			j := random.Intn(len(outstanding))
			l = append(l, done(outstanding[j]))
			outstanding = slices.Delete(outstanding, j, j+1)
		default:
			l = append(l, flush())
		}
	}
	if random.Intn(2) == 0 {
		spoil(random, &l[random.Intn(len(l))])
	}
	return l
}

// spoil changes a field of an event.
func spoil(random *rand.Rand, v *api.IoEvent) {
	switch random.Intn(5) {
	case 0:
		v.Kind = random.Intn(5)
	case 1:
		v.Id++
	case 2:
		v.Block = random.Intn(16) - 4
	case 3:
		v.Data = make([]byte, 31+random.Intn(3))
	case 4:
		v.Data = nil
	}
}

// P11.1 to P11.4 and P11.6: random histories.
func TestRandomHistories(t *testing.T) {
	random := rand.New(rand.NewSource(1))
	seen, limited := map[int]int{}, 0
	for range 1500 {
		blocks := pages("ABCDEFG"[:1+random.Intn(7)])
		l := randomHistory(random, len(blocks), 1+random.Intn(40))
		expect(t, blocks, l)
		seen[Check(blocks, l)]++
		for range 5 {
			a, b := l[random.Intn(len(l))].Id, l[random.Intn(len(l))].Id
			expectOrdered(t, blocks, l, a, b)
		}
		if Check(blocks, l) != api.OK {
			continue
		}
		expectConsequences(t, blocks, l)
		expectRandomImages(t, random, blocks, l)
		if _, e := Images(blocks, l); e == api.ErrLimit {
			limited++
		}
	}
	for _, e := range []int{api.OK, api.ErrArg, api.ErrRange, api.ErrForm, api.ErrNone} {
		if seen[e] < 20 {
			t.Errorf("the result %d occurred %d times", e, seen[e])
		}
	}
	if limited < 20 {
		t.Errorf("%d histories have too many images", limited)
	}
}

// expectRandomImages compares Allows with its promise for images, most of them with possible contents.
func expectRandomImages(t *testing.T, random *rand.Rand, blocks [][]byte, l []api.IoEvent) {
	t.Helper()
	for range 10 {
		var image [][]byte
		for block := range blocks {
			contents := choicesOf(blocks, l, block)
			image = append(image, contents[random.Intn(len(contents))])
		}
		if random.Intn(2) == 0 {
			image[random.Intn(len(image))] = page(byte('A' + random.Intn(14)))
		}
		expectAllows(t, blocks, l, image)
		expectAllows(t, blocks, l, image[1:])
		expectAllows(t, blocks, l, append(image, image[0]))
		image[random.Intn(len(image))] = image[0][:31]
		expectAllows(t, blocks, l, image)
	}
}

// manyChoices returns blocks and a history such that each block has a number of possible contents.
func manyChoices(counts ...int) ([][]byte, []api.IoEvent) {
	var blocks [][]byte
	var l []api.IoEvent
	for block, count := range counts {
		blocks = append(blocks, page(0))
		for i := 1; i < count; i++ {
			l = append(l, write(len(l), block, byte(i)))
		}
	}
	return blocks, l
}

// P11.3: the limit of Images.
func TestImagesLimit(t *testing.T) {
	for _, c := range []struct {
		counts []int
		want   int
	}{
		{nil, 1}, {[]int{1}, 1}, {[]int{63}, 63}, {[]int{64}, 64}, {[]int{65}, 0}, {[]int{200}, 0},
		{[]int{8, 8}, 64}, {[]int{4, 4, 4}, 64}, {[]int{2, 1, 32}, 64}, {[]int{5, 13}, 0}, {[]int{13, 5}, 0}, {[]int{7, 9}, 63}, {[]int{3, 22}, 0},
		{[]int{1, 64, 1}, 64}, {[]int{1, 1, 65}, 0}, {[]int{65, 1, 1}, 0},
		{slices.Repeat([]int{2}, 6), 64}, {slices.Repeat([]int{2}, 7), 0}, {slices.Repeat([]int{2}, 62), 0}, {slices.Repeat([]int{2}, 63), 0},
		{slices.Repeat([]int{2}, 64), 0}, {slices.Repeat([]int{2}, 65), 0}, {slices.Repeat([]int{16}, 16), 0}, {slices.Repeat([]int{4}, 32), 0},
		{slices.Repeat([]int{1}, 300), 1}, {append(slices.Repeat([]int{1}, 300), 64), 64},
	} {
		blocks, l := manyChoices(c.counts...)
		images, e := Images(blocks, l)
		wantError := api.OK
		if c.want == 0 {
			wantError = api.ErrLimit
		}
		if len(images) != c.want || e != wantError {
			t.Errorf("of %v: %d images, the error %d", c.counts, len(images), e)
		}
		expect(t, blocks, l)
	}
	// The same content again is no other choice.
	blocks, l := manyChoices(64)
	for i := range 20 {
		l = append(l, write(100+i, 0, byte(i)))
	}
	if images, e := Images(blocks, l); len(images) != 64 || e != api.OK {
		t.Errorf("%d images, the error %d", len(images), e)
	}
}

// P11.3: the order of the images, with literal contents.
func TestImagesOrder(t *testing.T) {
	l := []api.IoEvent{write(1, 0, 'Z'), write(2, 2, 'Y'), write(3, 2, 'X'), done(3), write(4, 2, 'C'), write(5, 0, 'A'), write(6, 0, 'D')}
	images, e := Images(pages("ABC"), l)
	var got []string
	for _, image := range images {
		got = append(got, letters(image))
	}
	if e != api.OK || !slices.Equal(got, []string{"ABC", "ABX", "ABY", "ZBC", "ZBX", "ZBY", "DBC", "DBX", "DBY"}) {
		t.Errorf("Images = %q, %d", got, e)
	}
}

// P11.4, with literal results.
func TestOrdered(t *testing.T) {
	for _, c := range []struct {
		what string
		l    []api.IoEvent
		want bool
		e    int
	}{
		{"ordered", []api.IoEvent{write(1, 0, 'C'), done(1), flush(), write(2, 0, 'D')}, true, api.OK},
		{"other blocks", []api.IoEvent{write(1, 0, 'C'), done(1), flush(), write(2, 1, 'D')}, true, api.OK},
		{"more flushes", []api.IoEvent{flush(), write(1, 0, 'C'), flush(), done(1), flush(), flush(), write(2, 0, 'D'), flush()}, true, api.OK},
		{"no flush", []api.IoEvent{write(1, 0, 'C'), done(1), write(2, 0, 'D')}, false, api.OK},
		{"a flush before the completion", []api.IoEvent{write(1, 0, 'C'), flush(), done(1), write(2, 0, 'D')}, false, api.OK},
		{"a flush behind the submission", []api.IoEvent{write(1, 0, 'C'), done(1), write(2, 0, 'D'), flush(), done(2)}, false, api.OK},
		{"never complete", []api.IoEvent{write(1, 0, 'C'), flush(), write(2, 0, 'D')}, false, api.OK},
		{"submitted before", []api.IoEvent{write(2, 0, 'D'), write(1, 0, 'C'), done(1), flush()}, false, api.OK},
		{"submitted before, with a flush between", []api.IoEvent{write(2, 0, 'D'), flush(), write(1, 0, 'C'), flush(), done(1), flush()}, false, api.OK},
		{"complete behind the submission", []api.IoEvent{write(1, 0, 'C'), write(2, 0, 'D'), flush(), done(1), flush(), done(2)}, false, api.OK},
		{"no first write", []api.IoEvent{write(2, 0, 'D')}, false, api.ErrNone},
		{"no second write", []api.IoEvent{write(1, 0, 'D'), done(1), flush()}, false, api.ErrNone},
		{"neither", []api.IoEvent{flush()}, false, api.ErrNone},
		{"the error of Check", []api.IoEvent{write(1, 0, 'C'), done(1), flush(), write(2, 0, 'D'), done(3)}, false, api.ErrNone},
		{"another error of Check", []api.IoEvent{{Kind: 4}}, false, api.ErrArg},
	} {
		if got, e := Ordered(pages("AB"), c.l, 1, 2); got != c.want || e != c.e {
			t.Errorf("%s: Ordered = %t, %d", c.what, got, e)
		}
		expectOrdered(t, pages("AB"), c.l, 1, 1)
		expectOrdered(t, pages("AB"), c.l, 2, 1)
	}
}

// P11.6: the device of layer 10 leaves after a crash just the possible images.
func TestDevice(t *testing.T) {
	random := rand.New(rand.NewSource(2))
	for range 2000 {
		blocks := pages("ABC"[:1+random.Intn(3)])
		d, _ := device.New(16, blocks)
		var l []api.IoEvent
		for range 1 + random.Intn(9) {
			var v api.IoEvent
			d, v = step(random, d)
			l = append(l, v)
		}
		crashed := map[string]bool{}
		for picks := range 1 << device.Choices(d) {
			var list []bool
			for i := range device.Choices(d) {
				list = append(list, picks>>i&1 == 1)
			}
			after, _ := device.Crash(d, list)
			crashed[letters(after.Blocks)] = true
		}
		possible := map[string]bool{}
		images, _ := Images(blocks, l)
		for _, image := range images {
			possible[letters(image)] = true
		}
		if len(images) > 0 && (!maps.Equal(crashed, possible) || len(possible) != len(images)) {
			t.Fatalf("after %v: %v, but crashes leave %v", l, possible, crashed)
		}
	}
}

// step makes a random step of a device, and returns its event.
func step(random *rand.Rand, d api.Device) (api.Device, api.IoEvent) {
	switch {
	case random.Intn(2) == 0:
		v := write(d.Next, random.Intn(len(d.Blocks)), byte('A'+random.Intn(6)))
		d, _, _ = device.Submit(d, api.RequestWrite, v.Block, v.Data)
		return d, v
	case len(d.Queue) > 0 && random.Intn(3) > 0:
		d, r, _ := device.Complete(d, random.Intn(len(d.Queue)), true)
		return d, done(r.Id)
	}
	d, _, _ = device.Submit(d, api.RequestFlush, 0, nil)
	d, _, _ = device.Complete(d, len(d.Queue)-1, true)
	return d, flush()
}

// P11.2 to P11.4, with a long history.
func TestLongHistory(t *testing.T) {
	blocks := slices.Repeat(pages("A"), 1<<12)
	var l []api.IoEvent
	for i := range 1 << 16 {
		l = append(l, write(i, i%len(blocks), byte(i>>12)), done(i))
		if i%16 == 15 {
			l = append(l, flush())
		}
	}
	l = append(l, slices.Repeat([]api.IoEvent{flush()}, 1<<16)...)
	for i := range 1 << 16 {
		l = append(l, write(-1-i, 0, byte(i)))
	}
	latest, e := Latest(blocks, l)
	if e != api.OK || !bytes.Equal(latest[0], page(15)) || len(latest) != len(blocks) {
		t.Errorf("Latest = %d blocks, %d", len(latest), e)
	}
	if contents, e := Choices(blocks, l, 0); e != api.OK || len(contents) != 256 || !bytes.Equal(contents[0], page(15)) || !bytes.Equal(contents[1], page(0)) {
		t.Errorf("Choices = %d contents, %d", len(contents), e)
	}
	if ok, e := Allows(blocks, l, latest); !ok || e != api.OK {
		t.Errorf("Allows = %t, %d", ok, e)
	}
	if ok, e := Ordered(blocks, l, 1<<16-1, -1<<16); !ok || e != api.OK {
		t.Errorf("Ordered = %t, %d", ok, e)
	}
}

// sample returns the arguments of a history with cached blocks and outstanding writes.
func sample() ([][]byte, []api.IoEvent) {
	return pages("ABC"), []api.IoEvent{write(1, 0, 'D'), done(1), flush(), write(2, 1, 'E'), write(3, 0, 'F'), done(2), write(4, 1, 'G'), write(5, 1, 'E')}
}

// mark is what the tests put behind the lists of an argument.
const mark = 99

func withMark(data []byte) []byte { return append(slices.Clone(data), mark)[:len(data)] }

// markedSample returns the sample, with marks behind its lists.
func markedSample() ([][]byte, []api.IoEvent) {
	blocks, l := sample()
	for i := range blocks {
		blocks[i] = withMark(blocks[i])
	}
	for i := range l {
		l[i].Data = withMark(l[i].Data)
	}
	return append(blocks, []byte{mark})[:len(blocks)], append(l, api.IoEvent{Id: mark})[:len(l)]
}

// isMarkedSample reports whether the arguments are still those of markedSample.
func isMarkedSample(blocks [][]byte, l []api.IoEvent) bool {
	wantBlocks, wantEvents := sample()
	isMarked := func(data []byte) bool { return data[:len(data)+1][len(data)] == mark }
	isSame := func(v, w api.IoEvent) bool {
		return v.Kind == w.Kind && v.Id == w.Id && v.Block == w.Block && bytes.Equal(v.Data, w.Data) && isMarked(v.Data)
	}
	if !slices.EqualFunc(blocks, wantBlocks, bytes.Equal) || !slices.EqualFunc(l, wantEvents, isSame) {
		return false
	}
	for _, data := range blocks {
		if !isMarked(data) {
			return false
		}
	}
	return bytes.Equal(blocks[:len(blocks)+1][len(blocks)], []byte{mark}) && l[:len(l)+1][len(l)].Id == mark
}

// overwrite changes a list of pages, and what is behind it and them.
func overwrite(pages [][]byte) {
	for i, data := range pages {
		data = data[:cap(data)]
		for j := range data {
			data[j] = 7
		}
		pages[i] = nil
	}
	_ = append(pages, nil)
}

// results returns the pages of all functions for the arguments.
func results(blocks [][]byte, l []api.IoEvent) [][][]byte {
	latest, _ := Latest(blocks, l)
	durable, _ := Durable(blocks, l)
	first, _ := Choices(blocks, l, 0)
	second, _ := Choices(blocks, l, 1)
	images, _ := Images(blocks, l)
	return append([][][]byte{latest, durable, first, second}, images...)
}

// P11.5
func TestArgumentsStay(t *testing.T) {
	blocks, l := markedSample()
	image := append(pages("ABC"), []byte{mark})
	for _, list := range results(blocks, l) {
		overwrite(list)
	}
	Check(blocks, l)
	Allows(blocks, l, image[:3])
	Ordered(blocks, l, 1, 2)
	if !isMarkedSample(blocks, l) || letters(image[:3]) != "ABC" || image[3][0] != mark {
		t.Error("an argument has changed, or a result shares its memory")
	}
	want := results(sample())
	got := results(blocks, l)
	overwrite(blocks)
	for i := range l {
		overwrite([][]byte{l[i].Data})
		l[i] = api.IoEvent{Kind: 7}
	}
	if !sameImages(got, want) {
		t.Error("a result changes with the arguments")
	}
}

// P11.5: the pages and the lists of a result share no memory either, also where the arguments do.
func TestResultsAreApart(t *testing.T) {
	shared := page('A')
	blocks := [][]byte{shared, shared, shared}
	l := []api.IoEvent{{Kind: api.IoWrite, Id: 1, Block: 1, Data: shared}, done(1), write(2, 0, 'B'), write(3, 2, 'C'), done(3)}
	want := results(blocks, l)
	if len(want) != 8 {
		t.Fatalf("%d results", len(want))
	}
	for i := range want {
		for j := range want[i] {
			got := results(blocks, l)
			overwrite(got[i][j : j+1 : j+1])
			got[i][j] = want[i][j]
			if !sameImages(got, want) {
				t.Fatalf("pages of the results share memory")
			}
		}
		got := results(blocks, l)
		overwrite(got[i])
		got[i] = want[i]
		if !sameImages(got, want) {
			t.Fatalf("lists of the results share memory")
		}
	}
}

// The examples of the chapter.
func TestExamples(t *testing.T) {
	look := func(l []api.IoEvent, contents, latest, durable string, images ...string) {
		t.Helper()
		blocks := pages("AB")
		gotContents, _ := Choices(blocks, l, 0)
		gotLatest, _ := Latest(blocks, l)
		gotDurable, _ := Durable(blocks, l)
		if letters(gotContents) != contents || letters(gotLatest) != latest || letters(gotDurable) != durable {
			t.Errorf("after %v: %q, %q, %q", l, gotContents, gotLatest, gotDurable)
		}
		var got []string
		all, _ := Images(blocks, l)
		for _, image := range all {
			got = append(got, letters(image))
		}
		if !slices.Equal(got, images) {
			t.Errorf("after %v: the images %q", l, got)
		}
	}
	l := []api.IoEvent{write(1, 0, 'C')}
	look(l, "AC", "AB", "AB", "AB", "CB")
	l = append(l, done(1), write(2, 0, 'D'))
	look(l, "ACD", "CB", "AB", "AB", "CB", "DB")
	l = append(l, flush())
	look(l, "CD", "CB", "CB", "CB", "DB")
	if ok, e := Ordered(pages("AB"), l, 1, 2); ok || e != api.OK {
		t.Errorf("Ordered = %t, %d", ok, e)
	}
	if ok, e := Ordered(pages("AB"), []api.IoEvent{write(1, 0, 'C'), done(1), flush(), write(2, 0, 'D')}, 1, 2); !ok || e != api.OK {
		t.Errorf("Ordered = %t, %d", ok, e)
	}
	if e := Check(pages("AB"), []api.IoEvent{write(1, 0, 'C'), done(1), done(1)}); e != api.ErrNone {
		t.Errorf("Check = %d", e)
	}
}
