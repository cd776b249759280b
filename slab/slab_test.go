package slab

import (
	"math"
	"math/rand"
	"slices"
	"testing"

	"estovers/api"
)

// limits are the limits of int and of the machine, and the numbers beside them.
func limits() []int {
	return []int{math.MinInt, math.MinInt + 1, -1 << 32, -33, -2, -1, 0, 1, 2, 3, 31, 32, 33, 255, 256, 257, 8191, 8192, 8193, 1 << 32, math.MaxInt - 31, math.MaxInt - 1, math.MaxInt}
}

// slabOf returns a slab of which the objects are used that are the ones of a text.
func slabOf(frame int, used string) api.Slab {
	s := api.Slab{Frame: frame}
	for _, letter := range used {
		s.Used = append(s.Used, letter == '1')
	}
	return s
}

// sample returns a cache whose slabs have one, some and all objects used.
func sample() api.SlabCache {
	return api.SlabCache{Objects: 3, Slabs: []api.Slab{slabOf(2, "010"), slabOf(7, "110"), slabOf(8, "111"), slabOf(255, "101")}}
}

// frameLists are all lists of a length of these frames.
func frameLists(length int, frames ...int) [][]int {
	out := [][]int{nil}
	for from := 0; len(out[from]) < length; from++ {
		for _, frame := range frames {
			out = append(out, append(slices.Clone(out[from]), frame))
		}
	}
	return out
}

// smallCaches are all caches whose slabs are in some of these frames.
func smallCaches(objects int, frames ...int) []api.SlabCache {
	out := []api.SlabCache{{Objects: objects}}
	for _, frame := range frames {
		for _, c := range slices.Clone(out) {
			for number := 1; number < 1<<objects; number++ {
				s := api.Slab{Frame: frame}
				for i := range objects {
					s.Used = append(s.Used, number>>i&1 == 1)
				}
				next := deepCopy(c)
				next.Slabs = append(next.Slabs, s)
				out = append(out, next)
			}
		}
	}
	return out
}

// P18.1: New.
func TestNew(t *testing.T) {
	for _, n := range append(limits(), 5, 17) {
		got, e := New(n)
		want, wantError := api.SlabCache{}, api.ErrArg
		if n >= 1 && n <= 32 {
			want, wantError = api.SlabCache{Objects: n}, api.OK
		}
		if e != wantError || !same(got, want) {
			t.Errorf("New(%d) = %v, %d", n, got, e)
		}
		expectLooks(t, got)
	}
}

// P18.1 to P18.4: all functions, for all small caches.
func TestSmallCaches(t *testing.T) {
	lists := frameLists(3, 0, 1, 3, 255)
	for objects := 1; objects <= 2; objects++ {
		for _, c := range smallCaches(objects, 0, 3, 255) {
			expectLooks(t, c)
			for object := -2; object <= 8; object++ {
				expect(t, c, freeAction(object))
			}
			for object := 255*objects - 2; object <= 257*objects; object++ {
				expect(t, c, freeAction(object))
			}
			for n := -1; n <= 9; n++ {
				for _, frames := range lists {
					if objects == 1 || len(frames) < 3 {
						expect(t, c, allocAction(n, frames))
					}
				}
			}
		}
	}
}

// P18.2 to P18.4: slabs of more objects, and frames between, before and behind their frames.
func TestSample(t *testing.T) {
	c := sample()
	expectLooks(t, c)
	for object := -800; object <= 800; object++ {
		expect(t, c, freeAction(object))
	}
	for _, frames := range frameLists(3, -1, 0, 1, 4, 7, 9, 254, 255, 256) {
		for n := -1; n <= 14; n++ {
			expect(t, c, allocAction(n, frames))
		}
	}
	for _, n := range limits() {
		expect(t, c, freeAction(n))
		for length := range 4 {
			expect(t, c, allocAction(n, []int{5, 4, 3}[:length]))
		}
		expect(t, c, allocAction(5, []int{n}))
		expect(t, c, allocAction(8, []int{n, n}))
		expect(t, c, allocAction(8, []int{0, n}))
	}
}

type fault struct {
	what   string
	change func(c *api.SlabCache)
	want   int
}

// slabFault changes a slab, if there is such a slab.
func slabFault(what string, i int, change func(s *api.Slab), want int) fault {
	return fault{what, func(c *api.SlabCache) {
		if i < len(c.Slabs) {
			change(&c.Slabs[i])
		}
	}, want}
}

// faults are changes of the sample, with the results of Check.
func faults() []fault {
	frame := func(n int) func(s *api.Slab) { return func(s *api.Slab) { s.Frame = n } }
	used := func(text string) func(s *api.Slab) { return func(s *api.Slab) { s.Used = slabOf(0, text).Used } }
	all := func(frame int, text string) func(s *api.Slab) { return func(s *api.Slab) { *s = slabOf(frame, text) } }
	objects := func(n int) func(c *api.SlabCache) { return func(c *api.SlabCache) { c.Objects = n } }
	return []fault{
		{"nothing", func(c *api.SlabCache) {}, api.OK},
		{"no objects", objects(0), api.ErrArg},
		{"less than none", objects(-1), api.ErrArg},
		{"33 objects", objects(33), api.ErrArg},
		{"the least number of objects", objects(math.MinInt), api.ErrArg},
		{"the greatest number of objects", objects(math.MaxInt), api.ErrArg},
		{"32 objects", objects(32), api.ErrForm},
		{"2 objects", objects(2), api.ErrForm},
		{"no slabs", func(c *api.SlabCache) { c.Slabs = nil }, api.OK},
		{"no slabs of no objects", func(c *api.SlabCache) { *c = api.SlabCache{} }, api.ErrArg},
		{"no slabs of 32 objects", func(c *api.SlabCache) { *c = api.SlabCache{Objects: 32} }, api.OK},
		{"one slab of one object", func(c *api.SlabCache) {
			*c = api.SlabCache{Objects: 1, Slabs: []api.Slab{slabOf(4, "1")}}
		}, api.OK},
		slabFault("frame -1", 0, frame(-1), api.ErrRange),
		slabFault("frame 0", 0, frame(0), api.OK),
		slabFault("frame 256", 3, frame(256), api.ErrRange),
		slabFault("the least frame", 1, frame(math.MinInt), api.ErrRange),
		slabFault("the greatest frame", 2, frame(math.MaxInt), api.ErrRange),
		slabFault("a frame twice", 1, frame(2), api.ErrOrder),
		slabFault("a frame twice at the end", 3, frame(8), api.ErrOrder),
		slabFault("descending frames", 2, frame(6), api.ErrOrder),
		slabFault("a frame that the next one is not greater than", 0, frame(7), api.ErrOrder),
		slabFault("too few objects", 1, used("11"), api.ErrForm),
		slabFault("too many objects", 3, used("1010"), api.ErrForm),
		slabFault("a slab without objects", 0, used(""), api.ErrForm),
		slabFault("all free", 0, used("000"), api.ErrNone),
		slabFault("all free at the end", 3, used("000"), api.ErrNone),
		slabFault("all used", 0, used("111"), api.OK),
		slabFault("only the last one used", 0, used("001"), api.OK),
		slabFault("all wrong", 1, all(-1, "00"), api.ErrRange),
		slabFault("all wrong but the range", 1, all(1, "00"), api.ErrOrder),
		slabFault("neither enough objects nor used ones", 1, all(4, "00"), api.ErrForm),
		{"an empty slab, then no frame", func(c *api.SlabCache) {
			c.Slabs = []api.Slab{slabOf(2, "000"), slabOf(-1, "111")}
		}, api.ErrNone},
		{"too few objects, then descending", func(c *api.SlabCache) {
			c.Slabs = []api.Slab{slabOf(2, "11"), slabOf(1, "111")}
		}, api.ErrForm},
		{"descending, then no frame", func(c *api.SlabCache) {
			c.Slabs = []api.Slab{slabOf(2, "111"), slabOf(1, "111"), slabOf(256, "111")}
		}, api.ErrOrder},
		{"no frame, then descending", func(c *api.SlabCache) {
			c.Slabs = []api.Slab{slabOf(256, "111"), slabOf(1, "111")}
		}, api.ErrRange},
	}
}

// P18.1, with literal errors, and what the other functions say of these caches.
func TestFaults(t *testing.T) {
	for _, f := range faults() {
		c := sample()
		f.change(&c)
		if e := Check(c); e != f.want {
			t.Errorf("%s: Check = %d, want %d", f.what, e, f.want)
		}
	}
	for _, f := range faults() {
		for _, g := range faults() {
			c := sample()
			f.change(&c)
			g.change(&c)
			expectLooks(t, c)
			for _, object := range []int{-1, 7, 8, 767} {
				expect(t, c, freeAction(object))
			}
			expect(t, c, allocAction(0, nil))
			expect(t, c, allocAction(1, nil))
			expect(t, c, allocAction(5, []int{9}))
			expect(t, c, allocAction(5, []int{-1}))
		}
	}
}

// P18.3 and P18.4: which error comes first.
func TestFirstError(t *testing.T) {
	for _, x := range []struct {
		a    action
		want int
	}{
		{allocAction(0, nil), api.ErrArg},
		{allocAction(-1, nil), api.ErrArg},
		{allocAction(4, nil), api.OK},
		{allocAction(4, []int{9}), api.ErrArg},
		{allocAction(5, nil), api.ErrArg},
		{allocAction(5, []int{9}), api.OK},
		{allocAction(7, []int{9}), api.OK},
		{allocAction(8, []int{9}), api.ErrArg},
		{allocAction(7, []int{9, 10}), api.ErrArg},
		{allocAction(8, []int{9, 9}), api.ErrExist},
		{allocAction(8, []int{-1}), api.ErrArg},
		{allocAction(8, []int{-1, 7}), api.ErrRange},
		{allocAction(8, []int{7, -1}), api.ErrExist},
		{allocAction(8, []int{256, 256}), api.ErrRange},
		{allocAction(8, []int{10, 9}), api.OK},
		{allocAction(5, []int{255}), api.ErrExist},
		{allocAction(math.MaxInt, []int{9}), api.ErrArg},
		{freeAction(6), api.ErrNone},
		{freeAction(7), api.OK},
		{freeAction(-1), api.ErrNone},
		{freeAction(9), api.ErrNone},
		{freeAction(math.MaxInt), api.ErrNone},
		{freeAction(math.MinInt), api.ErrNone},
	} {
		if got := expect(t, sample(), x.a); got.e != x.want {
			t.Errorf("%s has the error %d, want %d", x.a.what, got.e, x.want)
		}
	}
}

// P18.2: how many frames very many objects need.
func TestNeed(t *testing.T) {
	for _, objects := range []int{1, 2, 3, 31, 32} {
		for _, c := range []api.SlabCache{{Objects: objects}, cacheOf(objects, []int{5 * objects})} {
			for n := -1; n <= 200; n++ {
				if got := Need(c, n); !isNeed(c, n, got) {
					t.Fatalf("Need(%v, %d) = %d", c, n, got)
				}
			}
		}
	}
	for _, x := range []struct{ objects, n, want int }{{1, math.MaxInt, math.MaxInt}, {32, math.MaxInt, 1 << 58}, {32, math.MaxInt - 31, 1<<58 - 1}, {32, 32, 1}, {32, 33, 2}, {4, 5, 2}, {4, 0, 0}, {4, math.MinInt, 0}} {
		if got := Need(api.SlabCache{Objects: x.objects}, x.n); got != x.want {
			t.Errorf("Need of %d objects, of which a frame has %d, = %d, want %d", x.n, x.objects, got, x.want)
		}
	}
}

// P18.3 and P18.4: all objects of all frames.
func TestAllFrames(t *testing.T) {
	random := rand.New(rand.NewSource(1))
	for _, objects := range []int{1, 4} {
		c, frames := api.SlabCache{Objects: objects}, random.Perm(256)
		expect(t, c, allocAction(256*objects, append(slices.Clone(frames), 256)))
		expect(t, c, allocAction(256*objects+1, append(slices.Clone(frames), 5)))
		full := expect(t, c, allocAction(256*objects, frames)).c
		expectLooks(t, full)
		expect(t, full, allocAction(1, []int{0}))
		expect(t, full, allocAction(1, nil))
		expect(t, full, freeAction(0))
		expect(t, full, freeAction(256*objects-1))
		expect(t, full, freeAction(256*objects))
	}
	// Far more frames than there are.
	expect(t, sample(), allocAction(3<<16+4, make([]int, 1<<16)))
	if _, _, e := Alloc(api.SlabCache{Objects: 1}, 1<<20, make([]int, 1<<20)); e != api.ErrExist {
		t.Errorf("Alloc of too many frames has the error %d", e)
	}
}

// newFrames returns so many frames that are in no slab, in any order.
func newFrames(random *rand.Rand, c api.SlabCache, n int) []int {
	var out []int
	for _, frame := range random.Perm(256) {
		if len(out) < n && !slices.Contains(framesOf(c), frame) {
			out = append(out, frame)
		}
	}
	return out
}

// P18.3, P18.4 and P18.6: random sequences, in which no object has two owners.
func TestRandomSequences(t *testing.T) {
	random := rand.New(rand.NewSource(2))
	for range 20 {
		c, _ := New(1 + random.Intn(32))
		var held []int
		for range 40 {
			n := 1 + random.Intn(1+random.Intn(3*c.Objects))
			if random.Intn(2) == 0 || len(held) == 0 {
				got := expect(t, c, allocAction(n, newFrames(random, c, Need(c, n))))
				for _, object := range got.objects {
					if slices.Contains(held, object) {
						t.Fatalf("the object %d of %v is allocated twice", object, c)
					}
					held = append(held, object)
				}
				c = got.c
			}
			for range random.Intn(len(held) + 1) {
				i := random.Intn(len(held))
				c = expect(t, c, freeAction(held[i])).c
				held = slices.Delete(held, i, i+1)
			}
			expectLooks(t, c)
			if !slices.Equal(Objects(c), slices.Sorted(slices.Values(held))) {
				t.Fatalf("of %v the objects %v are held", c, held)
			}
		}
	}
}

// P18.6: the sum of used and free objects; allocating and freeing restores the cache, and hands back exactly the frames that were handed in.
func TestRestored(t *testing.T) {
	random := rand.New(rand.NewSource(3))
	all := append(smallCaches(2, 0, 3, 255), sample(), cacheOf(32, []int{5, 31, 77}), api.SlabCache{Objects: 5})
	for _, c := range all {
		if frames, used, free := Account(c); frames*c.Objects != used+free {
			t.Fatalf("Account(%v) = %d, %d, %d", c, frames, used, free)
		}
		for n := 1; n < 20; n++ {
			frames := newFrames(random, c, Need(c, n))
			out, objects, e := Alloc(c, n, frames)
			if e != api.OK || len(objects) != n {
				t.Fatalf("Alloc(%v, %d, %v) = %v, %d", c, n, frames, objects, e)
			}
			var back []int
			for _, i := range random.Perm(n) {
				next, frame, e := Free(out, objects[i])
				if e != api.OK {
					t.Fatalf("Free(%v, %d) has the error %d", out, objects[i], e)
				}
				if frame != -1 {
					back = append(back, frame)
				}
				out = next
			}
			if !same(out, c) || !slices.Equal(slices.Sorted(slices.Values(back)), slices.Sorted(slices.Values(frames))) {
				t.Fatalf("after %d objects in %v came and went, %v is %v, and %v came back", n, frames, c, out, back)
			}
		}
	}
}

// mark is the frame of the slab that the tests put behind those of an argument.
const mark = 9999

// withMarks returns a copy with spare capacity behind its lists.
func withMarks(c api.SlabCache) api.SlabCache {
	c = deepCopy(c)
	for i, s := range c.Slabs {
		c.Slabs[i].Used = append(s.Used, true, false)[:len(s.Used)]
	}
	c.Slabs = append(c.Slabs, api.Slab{Frame: mark})[:len(c.Slabs)]
	return c
}

// areMarked reports whether c is equal to want, with the marks in their places.
func areMarked(c, want api.SlabCache) bool {
	n := len(c.Slabs)
	for _, s := range c.Slabs {
		if behind := s.Used[len(s.Used) : len(s.Used)+2]; !behind[0] || behind[1] {
			return false
		}
	}
	return c.Slabs[:n+1][n].Frame == mark && same(c, want)
}

// overwriteUsed changes everything in a list, and behind it.
func overwriteUsed(l []bool) {
	l = l[:cap(l)]
	for i := range l {
		l[i] = !l[i]
	}
}

// overwriteAll changes everything in c, and behind its lists.
func overwriteAll(c api.SlabCache) {
	for _, s := range c.Slabs {
		overwriteUsed(s.Used)
	}
	slabs := c.Slabs[:cap(c.Slabs)]
	for i := range slabs {
		slabs[i] = api.Slab{Frame: 7}
	}
}

func overwrite(l []int) {
	l = l[:cap(l)]
	for i := range l {
		l[i] = 77
	}
}

// changes are calls with results of all kinds for the sample.
func changes() []action {
	out := []action{allocAction(1, nil), allocAction(4, nil), allocAction(5, []int{9}), allocAction(9, []int{254, 1}), allocAction(10, []int{9, 4}), allocAction(0, nil), allocAction(5, []int{7})}
	for object := range 30 {
		out = append(out, freeAction(object))
	}
	return append(out, freeAction(765), freeAction(767))
}

// P18.5
func TestArgumentsStay(t *testing.T) {
	invalid := sample()
	invalid.Slabs[3].Frame = 8
	for _, c := range []api.SlabCache{sample(), invalid} {
		for _, a := range changes() {
			argument := withMarks(c)
			got := a.do(argument)
			if !areMarked(argument, c) {
				t.Fatalf("%s: the argument has changed", a.what)
			}
			want := outcome{deepCopy(got.c), slices.Clone(got.objects), got.frame, got.e}
			overwriteAll(argument)
			if !got.same(want) {
				t.Fatalf("%s: the result changes with the argument", a.what)
			}
			argument = withMarks(c)
			got = a.do(argument)
			overwrite(got.objects)
			overwriteAll(got.c)
			if !areMarked(argument, c) {
				t.Fatalf("%s: the argument changes with the result", a.what)
			}
		}
		argument := withMarks(c)
		Check(argument)
		Need(argument, 9)
		Account(argument)
		overwrite(Objects(argument))
		if !areMarked(argument, c) {
			t.Fatal("a function that looks at a cache has changed it")
		}
	}
}

// P18.5: the frames of Alloc.
func TestFramesStay(t *testing.T) {
	frames := []int{254, 9, 1, mark}
	got, objects, e := Alloc(sample(), 12, frames[:3])
	want := outcome{deepCopy(got), slices.Clone(objects), 0, e}
	if e != api.OK || !slices.Equal(frames, []int{254, 9, 1, mark}) {
		t.Fatalf("Alloc has changed its frames to %v: %d", frames, e)
	}
	overwrite(frames)
	if !(outcome{got, objects, 0, e}).same(want) {
		t.Error("the result of Alloc changes with its frames")
	}
	frames = []int{254, 9, 1, mark}
	got, objects, _ = Alloc(sample(), 12, frames[:3])
	overwrite(objects)
	overwriteAll(got)
	if !slices.Equal(frames, []int{254, 9, 1, mark}) {
		t.Error("the frames of Alloc change with its result")
	}
}

// P18.5: what is appended to a list of a result is in no other list of it.
func TestListsAreApart(t *testing.T) {
	for _, a := range changes() {
		got := a.do(sample())
		want := outcome{deepCopy(got.c), slices.Clone(got.objects), got.frame, got.e}
		for i, s := range got.c.Slabs {
			overwriteUsed(s.Used)
			got.c.Slabs[i] = deepCopy(want.c).Slabs[i]
			if !got.same(want) {
				t.Fatalf("%s: slabs of the result share memory", a.what)
			}
		}
	}
}

// The examples of the chapter.
func TestExamples(t *testing.T) {
	empty, _ := New(4)
	if n := Need(empty, 5); n != 2 {
		t.Errorf("Need = %d", n)
	}
	c, objects, e := Alloc(empty, 5, []int{9, 3})
	if e != api.OK || !slices.Equal(objects, []int{12, 13, 14, 15, 36}) {
		t.Errorf("Alloc = %v, %d", objects, e)
	}
	if frames, used, free := Account(c); frames != 2 || used != 5 || free != 3 {
		t.Errorf("Account = %d, %d, %d", frames, used, free)
	}
	c, frame, e := Free(c, 13)
	if frame != -1 || e != api.OK {
		t.Errorf("Free(13) = %d, %d", frame, e)
	}
	if c, objects, e = Alloc(c, 2, nil); e != api.OK || !slices.Equal(objects, []int{13, 37}) {
		t.Errorf("the second Alloc = %v, %d", objects, e)
	}
	if c, frame, e = Free(c, 36); frame != -1 || e != api.OK {
		t.Errorf("Free(36) = %d, %d", frame, e)
	}
	if c, frame, e = Free(c, 37); frame != 9 || e != api.OK || !slices.Equal(Objects(c), []int{12, 13, 14, 15}) {
		t.Errorf("Free(37) = %d, %d", frame, e)
	}
	if _, objects, e = Alloc(empty, 5, []int{9}); e != api.ErrArg || objects != nil {
		t.Errorf("Alloc with one frame = %v, %d", objects, e)
	}
}
