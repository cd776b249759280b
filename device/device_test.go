package device

import (
	"bytes"
	"math"
	"math/rand"
	"slices"
	"testing"

	"estovers/api"
)

// noBlocks are numbers that are no blocks of a device.
func noBlocks(d api.Device) []int {
	return []int{-1, len(d.Blocks), 256, 1 << 32, math.MinInt, math.MaxInt}
}

// sample returns a device with 4 blocks, of which 1 and 3 are cached, and with requests of all kinds.
func sample() api.Device {
	return api.Device{
		Depth:  6,
		Next:   20,
		Blocks: [][]byte{page('A'), page('B'), page('C'), page('D')},
		Cache:  []api.Cached{{Block: 1, Data: page('E')}, {Block: 3, Data: page('F')}},
		Queue: []api.Request{
			{Id: 0, Kind: api.RequestWrite, Block: 1, Data: page('G')},
			{Id: 7, Kind: api.RequestFlush},
			{Id: 8, Kind: api.RequestRead, Block: 3},
			{Id: 18, Kind: api.RequestWrite, Block: 2, Data: page('H')},
			{Id: 19, Kind: api.RequestWrite, Block: 1, Data: page('I')},
		},
	}
}

// actions are calls with many arguments for a device.
func actions(d api.Device) []action {
	out := []action{crashAction(), crashAction(true), crashAction(false, true, true, false, true, true, true), crashAction(slices.Repeat([]bool{true}, 300)...)}
	blocks := append(noBlocks(d), 0, 1, 2, 3)
	for _, kind := range []int{0, api.RequestRead, api.RequestWrite, api.RequestFlush, 4, -1, math.MinInt, math.MaxInt} {
		for _, block := range blocks {
			for _, data := range [][]byte{nil, {}, page('x'), page('y')[:31], append(page('z'), 'z'), {0}} {
				out = append(out, submitAction(kind, block, data))
			}
		}
	}
	for position := -1; position <= len(d.Queue); position++ {
		out = append(out, completeAction(position, false), completeAction(position, true))
	}
	for _, position := range []int{16, math.MinInt, math.MaxInt} {
		out = append(out, completeAction(position, false), completeAction(position, true))
	}
	return out
}

// P10.2
func TestNew(t *testing.T) {
	for _, depth := range []int{math.MinInt, -1, 0, 1, 2, 15, 16, 17, math.MaxInt} {
		for _, count := range []int{0, 1, 2, 255, 256, 257, 1000} {
			for _, size := range []int{0, 1, 31, 32, 33, 64} {
				for _, place := range []int{0, count / 2, count - 1} {
					blocks := slices.Repeat([][]byte{page('a')}, count)
					if count > 0 {
						blocks[place] = bytes.Repeat([]byte{'b'}, size)
					}
					expectNew(t, depth, blocks)
				}
			}
		}
	}
}

func expectNew(t *testing.T, depth int, blocks [][]byte) {
	t.Helper()
	got, e := New(depth, blocks)
	want, wantError := api.Device{}, api.OK
	switch {
	case depth < 1 || depth > 16 || len(blocks) < 1 || len(blocks) > 256:
		wantError = api.ErrRange
	case slices.ContainsFunc(blocks, func(data []byte) bool { return len(data) != 32 }):
		wantError = api.ErrForm
	default:
		want = api.Device{Depth: depth, Blocks: blocks}
	}
	if e != wantError || !same(got, want) {
		t.Fatalf("New(%d, %q) = %v, %d, want %v, %d", depth, blocks, got, e, want, wantError)
	}
	if e == api.OK {
		expectLooks(t, got)
	}
}

type fault struct {
	what   string
	change func(d *api.Device)
	want   int
}

// faults are changes of the sample, with the results of Check.
func faults() []fault {
	return []fault{
		{"nothing", func(d *api.Device) {}, api.OK},
		{"depth 0", func(d *api.Device) { d.Depth = 0 }, api.ErrRange},
		{"depth 17", func(d *api.Device) { d.Depth = 17 }, api.ErrRange},
		{"the least depth", func(d *api.Device) { d.Depth = math.MinInt }, api.ErrRange},
		{"depth 16", func(d *api.Device) { d.Depth = 16 }, api.OK},
		{"next -1", func(d *api.Device) { d.Next = -1 }, api.ErrRange},
		{"next 2^40", func(d *api.Device) { d.Next = 1 << 40 }, api.OK},
		{"next 2^40 + 1", func(d *api.Device) { d.Next = 1<<40 + 1 }, api.ErrRange},
		{"no blocks", func(d *api.Device) { d.Blocks = nil }, api.ErrRange},
		{"257 blocks", func(d *api.Device) { d.Blocks = slices.Repeat(d.Blocks, 65)[:257] }, api.ErrRange},
		{"256 blocks", func(d *api.Device) { d.Blocks = slices.Repeat(d.Blocks, 64)[:256] }, api.OK},
		{"a short block", func(d *api.Device) { d.Blocks[3] = d.Blocks[3][:31] }, api.ErrForm},
		{"a long block", func(d *api.Device) { d.Blocks[0] = make([]byte, 33) }, api.ErrForm},
		{"a block of nothing", func(d *api.Device) { d.Blocks[2] = nil }, api.ErrForm},
		{"cache: no such block", func(d *api.Device) { d.Cache[1].Block = 4 }, api.ErrOrder},
		{"cache: block -1", func(d *api.Device) { d.Cache[0].Block = -1 }, api.ErrOrder},
		{"cache: a block twice", func(d *api.Device) { d.Cache[0].Block = 3 }, api.ErrOrder},
		{"cache: descending", func(d *api.Device) { d.Cache[1].Block = 0 }, api.ErrOrder},
		{"cache: the greatest block", func(d *api.Device) { d.Cache[1].Block = math.MaxInt }, api.ErrOrder},
		{"cache: short data", func(d *api.Device) { d.Cache[0].Data = d.Cache[0].Data[:31] }, api.ErrForm},
		{"cache: long data", func(d *api.Device) { d.Cache[1].Data = make([]byte, 33) }, api.ErrForm},
		{"cache: no data", func(d *api.Device) { d.Cache[1].Data = nil }, api.ErrForm},
		{"cache: short data before a block twice", func(d *api.Device) { d.Cache[0].Data, d.Cache[1].Block = nil, 1 }, api.ErrOrder},
		{"cache: none", func(d *api.Device) { d.Cache = nil }, api.OK},
		{"cache: all blocks", func(d *api.Device) {
			d.Cache = []api.Cached{{Block: 0, Data: page('1')}, {Block: 1, Data: page('2')}, {Block: 2, Data: page('3')}, {Block: 3, Data: page('4')}}
		}, api.OK},
		{"queue: as many as the depth", func(d *api.Device) { d.Depth = 5 }, api.OK},
		{"queue: more than the depth", func(d *api.Device) { d.Depth = 4 }, api.ErrFull},
		{"queue: more than the depth, with a bad one", func(d *api.Device) { d.Depth, d.Queue[0].Kind = 4, 0 }, api.ErrFull},
		{"queue: kind 0", func(d *api.Device) { d.Queue[0].Kind = 0 }, api.ErrArg},
		{"queue: kind 4", func(d *api.Device) { d.Queue[4].Kind = 4 }, api.ErrArg},
		{"queue: kind -1", func(d *api.Device) { d.Queue[4].Kind = -1 }, api.ErrArg},
		{"queue: no such block to read", func(d *api.Device) { d.Queue[2].Block = 4 }, api.ErrRange},
		{"queue: block -1 to read", func(d *api.Device) { d.Queue[2].Block = -1 }, api.ErrRange},
		{"queue: no such block to write", func(d *api.Device) { d.Queue[4].Block = 4 }, api.ErrRange},
		{"queue: a flush of block 1", func(d *api.Device) { d.Queue[1].Block = 1 }, api.ErrRange},
		{"queue: a read with data", func(d *api.Device) { d.Queue[2].Data = page('x') }, api.ErrForm},
		{"queue: a flush with data", func(d *api.Device) { d.Queue[1].Data = []byte{0} }, api.ErrForm},
		{"queue: a write without data", func(d *api.Device) { d.Queue[3].Data = nil }, api.ErrForm},
		{"queue: a write with short data", func(d *api.Device) { d.Queue[3].Data = make([]byte, 31) }, api.ErrForm},
		{"queue: a write with long data", func(d *api.Device) { d.Queue[3].Data = make([]byte, 33) }, api.ErrForm},
		{"queue: empty data of a read", func(d *api.Device) { d.Queue[2].Data = []byte{} }, api.OK},
		{"queue: the first id -1", func(d *api.Device) { d.Queue[0].Id = -1 }, api.ErrOrder},
		{"queue: the last id too great", func(d *api.Device) { d.Queue[4].Id = 20 }, api.ErrOrder},
		{"queue: an id twice", func(d *api.Device) { d.Queue[1].Id = 8 }, api.ErrOrder},
		{"queue: descending ids", func(d *api.Device) { d.Queue[3].Id = 7 }, api.ErrOrder},
		{"queue: next below the ids", func(d *api.Device) { d.Next = 19 }, api.ErrOrder},
		{"queue: no id is left", func(d *api.Device) { d.Next = 0 }, api.ErrOrder},
		{"queue: kind, block, data and id", func(d *api.Device) { d.Queue[3] = api.Request{Id: -1, Block: -1, Data: []byte{0}} }, api.ErrArg},
		{"queue: block, data and id", func(d *api.Device) {
			d.Queue[3] = api.Request{Id: -1, Kind: api.RequestFlush, Block: 1, Data: []byte{0}}
		}, api.ErrRange},
		{"queue: data and id", func(d *api.Device) { d.Queue[3] = api.Request{Id: -1, Kind: api.RequestFlush, Data: []byte{0}} }, api.ErrForm},
		{"queue: id, then kind", func(d *api.Device) { d.Queue[1].Id, d.Queue[2].Kind = 0, 0 }, api.ErrOrder},
		{"queue: data, then block", func(d *api.Device) { d.Queue[0].Data, d.Queue[2].Block = nil, 4 }, api.ErrForm},
		{"queue: none", func(d *api.Device) { d.Queue = nil }, api.OK},
		{"everything", func(d *api.Device) {
			d.Depth, d.Blocks[0], d.Cache[0], d.Queue[0] = 17, nil, api.Cached{Block: 9}, api.Request{Id: -1}
		}, api.ErrRange},
		{"block, cache and queue", func(d *api.Device) { d.Blocks[0], d.Cache[0].Block, d.Queue[0].Kind = nil, 9, 0 }, api.ErrForm},
	}
}

// P10.1, with literal errors; and all functions for devices with a change.
func TestCheck(t *testing.T) {
	for _, f := range faults() {
		d := sample()
		f.change(&d)
		if e := Check(d); e != f.want {
			t.Errorf("%s: Check = %d, want %d", f.what, e, f.want)
		}
		expectLooks(t, d)
		for _, a := range actions(d) {
			expect(t, d, a)
		}
	}
}

// P10.1: the order of the errors of two faults.
func TestCheckOrder(t *testing.T) {
	for _, f := range faults() {
		for _, g := range faults() {
			d := sample()
			f.change(&d)
			// The second change finds the lists that it needs as they were.
			if len(d.Blocks) != 4 || len(d.Cache) != 2 || len(d.Queue) != 5 || len(d.Cache[0].Data) == 0 || len(d.Blocks[3]) == 0 {
				continue
			}
			g.change(&d)
			expectLooks(t, d)
		}
	}
	if e := Check(api.Device{}); e != api.ErrRange {
		t.Errorf("Check of nothing = %d", e)
	}
}

// P10.1, for lists that are very long.
func TestCheckLarge(t *testing.T) {
	d := sample()
	d.Queue = slices.Repeat(d.Queue, 1<<14)
	if e := Check(d); e != api.ErrFull {
		t.Errorf("Check = %d", e)
	}
	d = sample()
	d.Cache = slices.Repeat(d.Cache, 1<<14)
	if e := Check(d); e != api.ErrOrder {
		t.Errorf("Check = %d", e)
	}
	d = sample()
	d.Blocks = slices.Repeat(d.Blocks, 1<<14)
	if e := Check(d); e != api.ErrRange {
		t.Errorf("Check = %d", e)
	}
}

// P10.3: the limits of a submission, and which error comes first.
func TestSubmitLimits(t *testing.T) {
	for _, c := range []struct {
		what  string
		next  int
		depth int
		a     action
		id, e int
	}{
		{"room for one", 20, 6, submitAction(api.RequestFlush, 0, nil), 20, api.OK},
		{"no room", 20, 5, submitAction(api.RequestFlush, 0, nil), 0, api.ErrFull},
		{"the last number", 1<<40 - 1, 6, submitAction(api.RequestRead, 3, nil), 1<<40 - 1, api.OK},
		{"no number", 1 << 40, 6, submitAction(api.RequestRead, 3, nil), 0, api.ErrLimit},
		{"no number and no room", 1 << 40, 5, submitAction(api.RequestRead, 3, nil), 0, api.ErrLimit},
		{"no number and no data", 1 << 40, 5, submitAction(api.RequestWrite, 3, nil), 0, api.ErrForm},
		{"no room and no block", 20, 5, submitAction(api.RequestWrite, 4, nil), 0, api.ErrRange},
		{"no room and no kind", 20, 5, submitAction(0, 4, []byte{1}), 0, api.ErrArg},
		{"a flush of a block", 20, 6, submitAction(api.RequestFlush, 1, nil), 0, api.ErrRange},
		{"not valid", 1<<40 + 1, 5, submitAction(0, 4, []byte{1}), 0, api.ErrRange},
	} {
		d := sample()
		d.Next, d.Depth = c.next, c.depth
		if got := expect(t, d, c.a); got.id != c.id || got.e != c.e {
			t.Errorf("%s: %s = %v", c.what, c.a.what, got)
		}
	}
}

// P10.4: requests of each kind, carried out or not, with literal results.
func TestComplete(t *testing.T) {
	d := sample()
	for position, want := range []api.Request{
		{Id: 0, Kind: api.RequestWrite, Block: 1, Data: page('G')}, {Id: 7, Kind: api.RequestFlush}, {Id: 8, Kind: api.RequestRead, Block: 3, Data: page('F')},
		{Id: 18, Kind: api.RequestWrite, Block: 2, Data: page('H')}, {Id: 19, Kind: api.RequestWrite, Block: 1, Data: page('I')},
	} {
		if got := expect(t, d, completeAction(position, true)); !sameRequest(got.r, want) {
			t.Errorf("request %d, carried out: %v", position, got.r)
		}
		if got := expect(t, d, completeAction(position, false)); !sameRequest(got.r, d.Queue[position]) || len(got.d.Queue) != 4 {
			t.Errorf("request %d, failed: %v", position, got.r)
		}
	}
	d.Queue[2].Block = 0
	if got := expect(t, d, completeAction(2, true)); !bytes.Equal(got.r.Data, page('A')) {
		t.Errorf("a read of a block that is not cached: %v", got.r)
	}
	replaced := expect(t, d, completeAction(4, true)).d
	if len(replaced.Cache) != 2 || !bytes.Equal(Content(replaced, 1), page('I')) || !bytes.Equal(Durable(replaced, 1), page('B')) {
		t.Errorf("a write of a cached block: %v", replaced)
	}
	added := expect(t, d, completeAction(3, true)).d
	if len(added.Cache) != 3 || added.Cache[1].Block != 2 || !bytes.Equal(Content(added, 2), page('H')) || !bytes.Equal(Durable(added, 2), page('C')) {
		t.Errorf("a write of a block that is not cached: %v", added)
	}
	flushed := expect(t, d, completeAction(1, true)).d
	for block, letter := range []byte("AECF") {
		if len(flushed.Cache) != 0 || !bytes.Equal(Durable(flushed, block), page(letter)) {
			t.Errorf("a flush: %v", flushed)
		}
	}
}

// allPicks returns all lists of n picks.
func allPicks(n int) [][]bool {
	var out [][]bool
	for mask := range 1 << n {
		picks := make([]bool, n)
		for i := range picks {
			picks[i] = mask>>i&1 == 1
		}
		out = append(out, picks)
	}
	return out
}

// P10.6: all picks, fewer than there are choices, and more.
func TestCrash(t *testing.T) {
	d := sample()
	if n := Choices(d); n != 5 {
		t.Fatalf("Choices = %d", n)
	}
	for n := range 8 {
		for _, picks := range allPicks(n) {
			got := expect(t, d, crashAction(picks...))
			if n > 5 {
				if less := expect(t, d, crashAction(picks[:5]...)); !got.same(less) {
					t.Errorf("Crash(%v) = %v, of its beginning %v", picks, got, less)
				}
			}
		}
	}
	for _, c := range []struct {
		picks []bool
		want  string
	}{
		{nil, "ABCD"}, {[]bool{true}, "AECD"}, {[]bool{false, true}, "ABCF"}, {[]bool{true, false, true}, "AGCD"}, {[]bool{true, true, true, true}, "AGHF"},
		{[]bool{true, true, true, true, true}, "AIHF"}, {[]bool{false, false, false, false, true, true}, "AICD"}, {[]bool{true, false, true, false, false}, "AGCD"},
	} {
		got := expect(t, d, crashAction(c.picks...)).d
		for block := range 4 {
			if !bytes.Equal(got.Blocks[block], page(c.want[block])) {
				t.Errorf("Crash(%v) leaves %q in block %d", c.picks, got.Blocks[block], block)
			}
		}
		if got.Depth != 6 || got.Next != 20 || len(got.Cache) != 0 || len(got.Queue) != 0 || Choices(got) != 0 {
			t.Errorf("Crash(%v) = %v", c.picks, got)
		}
	}
}

// randomAction returns an action that is often possible.
func randomAction(random *rand.Rand, d api.Device) action {
	switch random.Intn(12) {
	case 0:
		all := actions(d)
		return all[random.Intn(len(all))]
	case 1:
		picks := make([]bool, random.Intn(20))
		for i := range picks {
			picks[i] = random.Intn(2) == 0
		}
		return crashAction(picks...)
	case 2:
		return submitAction(api.RequestFlush, 0, nil)
	case 3:
		return submitAction(api.RequestRead, random.Intn(len(d.Blocks)), nil)
	case 4, 5, 6:
		return submitAction(api.RequestWrite, random.Intn(len(d.Blocks)), page(byte(random.Intn(256))))
	}
	return completeAction(random.Intn(len(d.Queue)+1), random.Intn(4) > 0)
}

// P10.3 to P10.7, with long sequences.
func TestSequences(t *testing.T) {
	random := rand.New(rand.NewSource(1))
	seen := map[int]int{}
	for range 60 {
		d, _ := New(1+random.Intn(8), slices.Repeat([][]byte{page(0)}, 1+random.Intn(8)))
		for range 300 {
			got := expect(t, d, randomAction(random, d))
			seen[got.e]++
			if got.e == api.OK {
				d = got.d
			}
			expectLooks(t, d)
			expectAllKept(t, d)
		}
	}
	for _, e := range []int{api.OK, api.ErrArg, api.ErrRange, api.ErrForm, api.ErrFull} {
		if seen[e] < 50 {
			t.Errorf("the result %d occurred %d times", e, seen[e])
		}
	}
}

// expectAllKept checks P10.7: behind a crash that keeps everything, a block without an outstanding write has the content that a read would have returned.
func expectAllKept(t *testing.T, d api.Device) {
	t.Helper()
	kept, e := Crash(d, slices.Repeat([]bool{true}, Choices(d)))
	if e != api.OK {
		t.Fatalf("Crash(%v) has the error %d", d, e)
	}
	for block := range d.Blocks {
		if !outstanding(d, block) && !bytes.Equal(kept.Blocks[block], Content(d, block)) {
			t.Fatalf("Crash(%v) leaves %q in block %d", d, kept.Blocks[block], block)
		}
	}
}

// P10.7: behind a flush that was carried out, a block without a later write, or one that was outstanding then, keeps its content in any crash.
func TestFlushIsDurable(t *testing.T) {
	random := rand.New(rand.NewSource(2))
	compared := 0
	for range 300 {
		d, _ := New(3, slices.Repeat([][]byte{page(0)}, 3))
		flushed := map[int][]byte{}
		for range 60 {
			a := randomAction(random, d)
			got := a.do(d)
			if got.e != api.OK {
				continue
			}
			d = got.d
			if got.r.Kind == api.RequestFlush && len(d.Cache) == 0 {
				for block := range d.Blocks {
					flushed[block] = Content(d, block)
				}
			}
			for block := range d.Blocks {
				if outstanding(d, block) {
					delete(flushed, block)
				}
			}
			for _, picks := range allPicks(Choices(d)) {
				crashed, _ := Crash(d, picks)
				for block, want := range flushed {
					if !bytes.Equal(Durable(crashed, block), want) {
						t.Fatalf("%v: Crash(%v) leaves %q in block %d", d, picks, crashed.Blocks[block], block)
					}
					compared++
				}
			}
		}
	}
	if compared < 10000 {
		t.Errorf("%d contents were compared", compared)
	}
}

// P10.7: a failed request changes no content, now and behind any crash that loses what was outstanding.
func TestFailureChangesNothing(t *testing.T) {
	d := sample()
	for position, r := range d.Queue {
		got := expect(t, d, completeAction(position, false)).d
		want := deepCopy(d)
		want.Queue = slices.Delete(want.Queue, position, position+1)
		if !same(got, want) {
			t.Errorf("the failure of %v leaves %v", r, got)
		}
		for block := range d.Blocks {
			if !bytes.Equal(Content(got, block), Content(d, block)) || !bytes.Equal(Durable(got, block), Durable(d, block)) {
				t.Errorf("the failure of %v changes block %d", r, block)
			}
		}
	}
}

// P10.1 and P10.3 to P10.6, with the largest device.
func TestLargest(t *testing.T) {
	d, e := New(16, slices.Repeat([][]byte{page('a')}, 256))
	if e != api.OK {
		t.Fatalf("New has the error %d", e)
	}
	for i := range 256 {
		d = expect(t, d, submitAction(api.RequestWrite, 255-i, page(byte(i)))).d
		d = expect(t, d, completeAction(0, true)).d
	}
	for i := range 16 {
		d = expect(t, d, submitAction(api.RequestWrite, 255, page(byte(i)))).d
	}
	if got := expect(t, d, submitAction(api.RequestRead, 0, nil)); got.e != api.ErrFull {
		t.Errorf("a request too many has the error %d", got.e)
	}
	if n := Choices(d); n != 272 {
		t.Errorf("Choices = %d", n)
	}
	expectLooks(t, d)
	picks := slices.Repeat([]bool{true}, 271)
	if got := expect(t, d, crashAction(picks...)).d; !bytes.Equal(got.Blocks[255], page(14)) || !bytes.Equal(got.Blocks[0], page(255)) {
		t.Errorf("Crash leaves %q and %q", got.Blocks[0], got.Blocks[255])
	}
}

// mark is what the tests put behind the lists of an argument.
const mark = 99

// withMarks returns a copy whose lists have spare capacity with marks in it.
func withMarks(d api.Device) api.Device {
	data := func(l []byte) []byte { return append(slices.Clone(l), mark)[:len(l)] }
	out := deepCopy(d)
	for i := range out.Blocks {
		out.Blocks[i] = data(out.Blocks[i])
	}
	for i := range out.Cache {
		out.Cache[i].Data = data(out.Cache[i].Data)
	}
	for i := range out.Queue {
		out.Queue[i].Data = data(out.Queue[i].Data)
	}
	out.Blocks = append(out.Blocks, []byte{mark})[:len(d.Blocks)]
	out.Cache = append(out.Cache, api.Cached{Block: mark})[:len(d.Cache)]
	out.Queue = append(out.Queue, api.Request{Id: mark})[:len(d.Queue)]
	return out
}

// behind returns the element in the spare capacity of a list.
func behind[T any](l []T) T { return l[:len(l)+1][len(l)] }

// areMarked reports whether d is equal to want, with the marks in their places.
func areMarked(d, want api.Device) bool {
	if !same(d, want) || !bytes.Equal(behind(d.Blocks), []byte{mark}) || behind(d.Cache).Block != mark || behind(d.Queue).Id != mark {
		return false
	}
	var all [][]byte
	for _, c := range d.Cache {
		all = append(all, c.Data)
	}
	for _, r := range d.Queue {
		all = append(all, r.Data)
	}
	return !slices.ContainsFunc(slices.Concat(d.Blocks, all), func(data []byte) bool { return behind(data) != mark })
}

// overwriteData changes a list, and what is behind it.
func overwriteData(data []byte) {
	for i := range data {
		data[i] = 7
	}
	_ = append(data, 7)
}

// overwrite changes everything in d and r, and behind their lists.
func overwrite(d api.Device, r api.Request) {
	overwriteData(r.Data)
	for i := range d.Blocks {
		overwriteData(d.Blocks[i])
		d.Blocks[i] = nil
	}
	for i := range d.Cache {
		overwriteData(d.Cache[i].Data)
		d.Cache[i] = api.Cached{Block: 7}
	}
	for i := range d.Queue {
		overwriteData(d.Queue[i].Data)
		d.Queue[i] = api.Request{Id: 7}
	}
	_, _, _ = append(d.Blocks, nil), append(d.Cache, api.Cached{}), append(d.Queue, api.Request{})
}

// Rule 'Values'.
func TestArgumentsStay(t *testing.T) {
	d := sample()
	for _, a := range actions(d) {
		argument := withMarks(d)
		got := a.do(argument)
		if !areMarked(argument, d) {
			t.Fatalf("%s: the argument has changed", a.what)
		}
		want := outcome{deepCopy(got.d), got.id, got.r, got.e}
		want.r.Data = slices.Clone(got.r.Data)
		overwrite(argument, api.Request{})
		if !got.same(want) {
			t.Fatalf("%s: the result changes with the argument", a.what)
		}
		argument = withMarks(d)
		got = a.do(argument)
		overwrite(got.d, got.r)
		if !areMarked(argument, d) {
			t.Fatalf("%s: the argument changes with the result", a.what)
		}
		got = a.do(d)
		overwrite(got.d, api.Request{})
		if !sameRequest(got.r, want.r) {
			t.Fatalf("%s: the request of the result changes with its device", a.what)
		}
		got = a.do(d)
		overwrite(api.Device{}, got.r)
		if !same(got.d, want.d) {
			t.Fatalf("%s: the device of the result changes with its request", a.what)
		}
	}
}

// Rule 'Values', for what is not a device.
func TestDataStay(t *testing.T) {
	argument := withMarks(sample())
	for block := range 4 {
		for _, look := range []func(d api.Device, block int) []byte{Content, Durable} {
			overwriteData(look(argument, block))
		}
	}
	Check(argument)
	Choices(argument)
	if !areMarked(argument, sample()) {
		t.Error("Content, Durable, Check or Choices has changed its argument, or shares its memory")
	}
	data := append(page('x'), mark)
	got, _, _ := Submit(sample(), api.RequestWrite, 0, data[:32])
	want := deepCopy(got)
	overwriteData(got.Queue[5].Data)
	if !bytes.Equal(data, append(page('x'), mark)) {
		t.Error("the data of Submit change with its result")
	}
	got, _, _ = Submit(sample(), api.RequestWrite, 0, data[:32])
	overwriteData(data[:32])
	if !same(got, want) {
		t.Error("the result of Submit changes with its data")
	}
	one := page('x')
	created, _ := New(1, [][]byte{one, one})
	overwriteData(one)
	overwriteData(created.Blocks[0])
	if !bytes.Equal(created.Blocks[1], page('x')) {
		t.Error("a block of the result of New changes with another, or with the argument")
	}
	picks := []bool{true, false, true, mark == 99}
	if _, e := Crash(sample(), picks[:3]); e != api.OK || !slices.Equal(picks, []bool{true, false, true, true}) {
		t.Error("Crash has changed its picks")
	}
}

// Rule 'Values': the data of a result share no memory, also where a change puts one in the place of another.
func TestDataAreApart(t *testing.T) {
	shared := page('x')
	d := sample()
	d.Blocks = [][]byte{shared, shared, shared, shared}
	d.Cache[0].Data, d.Cache[1].Data, d.Queue[0].Data, d.Queue[3].Data = shared, shared, shared, shared
	for _, a := range []action{completeAction(0, true), completeAction(1, true), completeAction(2, true), completeAction(4, false), crashAction(true, true, true, true), submitAction(api.RequestWrite, 0, shared)} {
		got := a.do(d)
		var all [][]byte
		for _, c := range got.d.Cache {
			all = append(all, c.Data)
		}
		for _, r := range append(slices.Clone(got.d.Queue), got.r) {
			all = append(all, r.Data)
		}
		all = slices.Concat(got.d.Blocks, all)
		for i := range all {
			for j := range all {
				if i != j && len(all[i]) > 0 && len(all[j]) > 0 && &all[i][0] == &all[j][0] {
					t.Errorf("%s: data of the result share memory", a.what)
				}
			}
		}
	}
}

// The example of the chapter.
func TestExample(t *testing.T) {
	zeros, ones := page(0), page(1)
	d, _ := New(2, [][]byte{zeros, zeros})
	submitted, id, e := Submit(d, api.RequestWrite, 1, ones)
	if id != 0 || e != api.OK {
		t.Fatalf("Submit = %d, %d", id, e)
	}
	d, _, _ = Complete(submitted, 0, true)
	if len(d.Cache) != 1 || d.Cache[0].Block != 1 || !bytes.Equal(Content(d, 1), ones) || !bytes.Equal(Durable(d, 1), zeros) {
		t.Errorf("behind the write: %v", d)
	}
	lost, _ := Crash(d, nil)
	kept, _ := Crash(d, []bool{true})
	if !bytes.Equal(lost.Blocks[1], zeros) || !bytes.Equal(kept.Blocks[1], ones) {
		t.Errorf("behind a crash: %v and %v", lost, kept)
	}
	d, id, _ = Submit(d, api.RequestFlush, 0, nil)
	if id != 1 {
		t.Errorf("the Id of the flush is %d", id)
	}
	d, _, _ = Complete(d, 0, true)
	if len(d.Cache) != 0 || !bytes.Equal(Durable(d, 1), ones) {
		t.Errorf("behind the flush: %v", d)
	}
	d, _, _ = Submit(d, api.RequestRead, 0, nil)
	d, _, _ = Submit(d, api.RequestRead, 1, nil)
	if _, _, e := Submit(d, api.RequestRead, 1, nil); e != api.ErrFull {
		t.Errorf("the third request has the error %d", e)
	}
}
