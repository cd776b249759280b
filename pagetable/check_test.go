package pagetable

import (
	"math"
	"math/rand"
	"slices"
	"testing"

	"estovers/api"
)

// isWord is a direct reading of what layer 5 calls the word of a well-formed entry.
func isWord(w uint64) bool {
	return w == 0 || fitsLow(w) || fitsHuge(w) || w%8 == 4 && w>>40 == 0 && w&(8+16+32+64+128) == 0
}

// reading is a direct reading of the promise of Check.
func reading(t api.PageTable) int {
	var frames []int
	rangeError, orderError, existError, hasRoot := false, false, false, false
	for i, n := range t.Nodes {
		rangeError = rangeError || n.Frame < 0 || n.Frame > greatest
		orderError = orderError || i > 0 && t.Nodes[i-1].Frame >= n.Frame
		existError = existError || slices.Contains(frames, n.Frame)
		hasRoot = hasRoot || n.Frame == t.Root
		frames = append(frames, n.Frame)
	}
	for i, p := range t.Deposits {
		rangeError = rangeError || p.Frame < 0 || p.Frame > greatest || p.Group < 0 || p.Group > 63
		orderError = orderError || i > 0 && t.Deposits[i-1].Group >= p.Group
		existError = existError || slices.Contains(frames, p.Frame)
		frames = append(frames, p.Frame)
	}
	switch {
	case rangeError:
		return api.ErrRange
	case orderError:
		return api.ErrOrder
	case existError:
		return api.ErrExist
	case !hasRoot:
		return api.ErrNone
	case !isForest(t):
		return api.ErrForm
	}
	return api.OK
}

// isForest is a direct reading of the last condition of Check.
func isForest(t api.PageTable) bool {
	for _, n := range t.Nodes {
		if slices.ContainsFunc(n.Entries[:], func(w uint64) bool { return !isWord(w) }) {
			return false
		}
	}
	// Each of the walks from the root to a group, and then to a page, passes one entry of each level.
	led := map[int]map[[3]int]bool{}
	var groups []int
	for first := 0; first < 512; first++ {
		frame := t.Root
		for level := 2; ; level-- {
			at := slices.IndexFunc(t.Nodes, func(n api.Node) bool { return n.Frame == frame })
			if at < 0 {
				return false
			}
			i := first / []int{1, 8, 64}[level] % 8
			w := t.Nodes[at].Entries[i]
			if level == 1 && fitsHuge(w) && first%8 == 0 {
				groups = append(groups, first/8)
			}
			if w%8 != 4 {
				if w != 0 && (level == 2 || level == 1 && !fitsHuge(w) || level == 0 && !fitsLow(w)) {
					return false
				}
				break
			}
			if level == 0 {
				return false
			}
			frame = int(w >> 8)
			if led[frame] == nil {
				led[frame] = map[[3]int]bool{}
			}
			led[frame][[3]int{level, first / []int{1, 8, 64}[level]}] = true
		}
	}
	for _, n := range t.Nodes {
		if n.Frame == t.Root && len(led[n.Frame]) != 0 || n.Frame != t.Root && len(led[n.Frame]) != 1 {
			return false
		}
	}
	var deposits []int
	for _, p := range t.Deposits {
		deposits = append(deposits, p.Group)
	}
	return slices.Equal(groups, deposits)
}

// invalid is a page table that is not well-formed, with the error of Check.
type invalid struct {
	what string
	t    api.PageTable
	e    int
}

// node returns the node in a frame.
func node(t *api.PageTable, frame int) *api.Node {
	return &t.Nodes[slices.IndexFunc(t.Nodes, func(n api.Node) bool { return n.Frame == frame })]
}

// addNode adds a node in its place.
func addNode(t *api.PageTable, n api.Node) {
	t.Nodes = append(t.Nodes, n)
	slices.SortFunc(t.Nodes, func(a, b api.Node) int { return a.Frame - b.Frame })
}

func invalidTables() []invalid {
	var out []invalid
	add := func(what string, e int, change func(t *api.PageTable)) {
		t, _ := sample()
		change(&t)
		out = append(out, invalid{what, t, e})
	}
	for _, n := range []int{-1, greatest + 1, math.MinInt, math.MaxInt} {
		add("a frame of a node", api.ErrRange, func(t *api.PageTable) { t.Nodes[3].Frame = n })
		add("a frame of a deposit", api.ErrRange, func(t *api.PageTable) { t.Deposits[2].Frame = n })
		add("a group of a deposit", api.ErrRange, func(t *api.PageTable) { t.Deposits[0].Group = n })
		add("the root", api.ErrNone, func(t *api.PageTable) { t.Root = n })
	}
	add("the first group too many", api.ErrRange, func(t *api.PageTable) { t.Deposits[2].Group = 64 })
	add("a range after an order", api.ErrRange, func(t *api.PageTable) { slices.Reverse(t.Nodes); t.Deposits[2].Group = -1 })
	add("nodes that do not ascend", api.ErrOrder, func(t *api.PageTable) { t.Nodes[3], t.Nodes[4] = t.Nodes[4], t.Nodes[3] })
	add("the last nodes", api.ErrOrder, func(t *api.PageTable) { n := len(t.Nodes); t.Nodes[n-1], t.Nodes[n-2] = t.Nodes[n-2], t.Nodes[n-1] })
	add("equal nodes", api.ErrOrder, func(t *api.PageTable) { t.Nodes[1] = t.Nodes[0] })
	add("deposits that do not ascend", api.ErrOrder, func(t *api.PageTable) { t.Deposits[1], t.Deposits[2] = t.Deposits[2], t.Deposits[1] })
	add("equal groups", api.ErrOrder, func(t *api.PageTable) { t.Deposits[1].Group = t.Deposits[0].Group })
	add("an order after a frame that occurs twice", api.ErrOrder, func(t *api.PageTable) { t.Deposits[1].Frame = 50; slices.Reverse(t.Deposits) })
	add("a deposit in the frame of a node", api.ErrExist, func(t *api.PageTable) { t.Deposits[1].Frame = 20 })
	add("a deposit in the frame of the root", api.ErrExist, func(t *api.PageTable) { t.Deposits[1].Frame = 50 })
	add("deposits in one frame", api.ErrExist, func(t *api.PageTable) { t.Deposits[2].Frame = t.Deposits[0].Frame })
	add("a frame twice, and no root", api.ErrExist, func(t *api.PageTable) { t.Deposits[1].Frame = 20; t.Root = 7 })
	add("no root", api.ErrNone, func(t *api.PageTable) { t.Root = 7 })
	add("a deposit as the root", api.ErrNone, func(t *api.PageTable) { t.Root = 99 })
	add("no root, and a malformed word", api.ErrNone, func(t *api.PageTable) { t.Root = 7; t.Nodes[0].Entries[0] = 7 })
	add("nothing", api.ErrNone, func(t *api.PageTable) { *t = api.PageTable{} })
	return append(out, malformedTables()...)
}

// malformedTables returns page tables for which Check returns ErrForm.
func malformedTables() []invalid {
	var out []invalid
	add := func(what string, change func(t *api.PageTable)) {
		t, _ := sample()
		change(&t)
		out = append(out, invalid{what, t, api.ErrForm})
	}
	set := func(what string, frame, i int, w uint64) {
		add(what, func(t *api.PageTable) { node(t, frame).Entries[i] = w })
	}
	for _, frame := range []int{50, 20, 60} {
		for _, w := range []uint64{5, 8, 128, 256, swapWord(1) + 8, linkWord(1) + 16, hugeWord(greatest-6, 0), 1 << 40, math.MaxUint64} {
			set("a malformed word", frame, 6, w)
		}
		set("a table that does not exist", frame, 6, linkWord(1))
		set("a table in the frame of a deposit", frame, 6, linkWord(99))
		set("the root", frame, 6, linkWord(50))
		set("a table that another entry leads to", frame, 6, linkWord(60))
		set("a table of level 1 that another entry leads to", frame, 6, linkWord(20))
		set("a huge page without a deposit", frame, 6, hugeWord(8, 0))
	}
	for _, frame := range []int{50, 20} {
		set("a page", frame, 6, pageWord(1, 1))
		set("a slot", frame, 6, swapWord(1))
		set("a page that is moved", frame, 6, moveWord(1))
	}
	set("no table, and so one that nothing leads to", 50, 4, 0)
	set("no huge page, but its deposit", 20, 2, 0)
	set("an empty table instead of a huge page", 20, 2, linkWord(1))
	add("a table that nothing leads to", func(t *api.PageTable) { addNode(t, api.Node{Frame: 1}) })
	add("a table that only itself leads to", func(t *api.PageTable) { addNode(t, api.Node{Frame: 1, Entries: [8]uint64{linkWord(1)}}) })
	add("tables that only each other lead to", func(t *api.PageTable) {
		addNode(t, api.Node{Frame: 1, Entries: [8]uint64{linkWord(2)}})
		addNode(t, api.Node{Frame: 2, Entries: [8]uint64{linkWord(1)}})
	})
	add("a malformed word in a table that nothing leads to", func(t *api.PageTable) { addNode(t, api.Node{Frame: 1, Entries: [8]uint64{128}}) })
	add("four levels", func(t *api.PageTable) {
		node(t, 11).Entries[0] = linkWord(1)
		addNode(t, api.Node{Frame: 1})
	})
	add("a deposit too many", func(t *api.PageTable) { t.Deposits = append(t.Deposits, api.Deposit{Group: 63, Frame: 96}) })
	add("a deposit too few", func(t *api.PageTable) { t.Deposits = t.Deposits[:2] })
	add("the deposit of another group", func(t *api.PageTable) { t.Deposits[2].Group = 61 })
	add("the table of level 1 as the root", func(t *api.PageTable) { t.Root = 20 })
	return out
}

// P6.1
func TestCheck(t *testing.T) {
	full := newModel(greatest)
	for i := range 8 {
		full.middle[i] = i
	}
	for g := range 64 {
		if g%5 == 0 {
			full.huge[g], full.deposit[g] = hugeWord(g, g%8), 1000-g
			continue
		}
		full.low[g] = 200 - g
		for i := range 8 {
			full.pages[8*g+i] = pageWord(i, g%8)
		}
	}
	sampled, _ := sample()
	for _, table := range []api.PageTable{sampled, full.table(), newModel(0).table(), {Root: 3, Nodes: []api.Node{{Frame: 3}}, Deposits: []api.Deposit{}}} {
		if e := Check(table); e != api.OK || reading(table) != api.OK {
			t.Errorf("Check(%v) = %d", table, e)
		}
	}
	agree(t, full.table(), full)
	for _, c := range invalidTables() {
		if e := Check(c.t); e != c.e || reading(c.t) != c.e {
			t.Errorf("%s: Check = %d, want %d, the reading is %d", c.what, e, c.e, reading(c.t))
		}
	}
}

// P6.1 and P6.2, for page tables that are not well-formed.
func TestInvalid(t *testing.T) {
	for _, c := range invalidTables() {
		for _, page := range []int{0, 1, 40, 72, -1, 512} {
			w, level, e := Walk(c.t, page)
			if w != 0 || level != 0 || e != c.e {
				t.Errorf("%s: Walk = %d, %d, %d, want the error %d", c.what, w, level, e, c.e)
			}
			if n, e := Missing(c.t, page); n != 0 || e != c.e {
				t.Errorf("%s: Missing = %d, %d, want the error %d", c.what, n, e, c.e)
			}
			for _, s := range []step{
				setStep(page, pageWord(1, 1), []int{1, 2}), setStep(page, 7, nil), setHugeStep(page/8, hugeWord(8, 1), []int{1}), setHugeStep(70, 7, nil),
				replaceStep(page, pageWord(1, 1)), replaceStep(page, 0), clearStep(page), splitStep(page / 8), splitStep(2), splitStep(-1), assembleStep(page / 8), assembleStep(9), assembleStep(64),
			} {
				out, old, free, e := s.do(c.t)
				if !same(out, api.PageTable{}) || old != 0 || len(free) != 0 || e != c.e {
					t.Errorf("%s: %s = %v, %d, %v, %d, want the error %d", c.what, s.name, out, old, free, e, c.e)
				}
			}
		}
		for group := range 64 {
			if Huge(c.t, group) {
				t.Errorf("%s: Huge(%d)", c.what, group)
			}
		}
		if len(List(c.t)) != 0 || len(Frames(c.t)) != 0 {
			t.Errorf("%s: List or Frames", c.what)
		}
	}
}

// spoil makes a random change.
func spoil(random *rand.Rand, t *api.PageTable) {
	anyFrame := func() int {
		return []int{0, 1, 20, 50, 60, 99, 10, 11, -1, greatest, greatest + 1}[random.Intn(11)]
	}
	i := random.Intn(len(t.Nodes))
	switch random.Intn(12) {
	case 0:
		t.Root = anyFrame()
	case 1:
		t.Nodes[i].Frame = anyFrame()
	case 2:
		j := random.Intn(len(t.Nodes))
		t.Nodes[i], t.Nodes[j] = t.Nodes[j], t.Nodes[i]
	case 3:
		if len(t.Nodes) > 1 {
			t.Nodes = slices.Delete(t.Nodes, i, i+1)
		}
	case 4:
		addNode(t, api.Node{Frame: anyFrame()})
	case 5:
		t.Deposits = append(t.Deposits, api.Deposit{Group: random.Intn(66) - 1, Frame: anyFrame()})
		slices.SortFunc(t.Deposits, func(a, b api.Deposit) int { return a.Group - b.Group })
	case 6:
		if len(t.Deposits) > 0 {
			t.Deposits[random.Intn(len(t.Deposits))].Frame = anyFrame()
		}
	case 7:
		if len(t.Deposits) > 0 {
			t.Deposits = t.Deposits[1:]
		}
	case 8:
		t.Nodes[i].Entries[random.Intn(8)] = linkWord(max(0, anyFrame()))
	default:
		all := words()
		t.Nodes[i].Entries[random.Intn(8)] = all[random.Intn(len(all))]
	}
}

// P6.1, with random changes of well-formed page tables.
func TestCheckRandom(t *testing.T) {
	random := rand.New(rand.NewSource(4))
	seen := map[int]int{}
	for range 4000 {
		table, _ := sample()
		for range 1 + random.Intn(2) {
			spoil(random, &table)
		}
		want := reading(table)
		if e := Check(table); e != want {
			t.Fatalf("Check(%v) = %d, want %d", table, e, want)
		}
		seen[want]++
	}
	for _, e := range []int{api.OK, api.ErrRange, api.ErrOrder, api.ErrExist, api.ErrNone, api.ErrForm} {
		if seen[e] < 20 {
			t.Errorf("the result %d occurred %d times", e, seen[e])
		}
	}
}

// P1, for page tables with very many tables.
func TestCheckLarge(t *testing.T) {
	table := api.PageTable{Root: 0}
	for f := range 200000 {
		n := api.Node{Frame: f}
		for i := range n.Entries {
			n.Entries[i] = linkWord(f + 1)
		}
		table.Nodes = append(table.Nodes, n)
	}
	if e := Check(table); e != api.ErrForm {
		t.Errorf("Check = %d", e)
	}
}

// withMarks returns a copy of t whose lists have spare capacity with marks in it.
func withMarks(t api.PageTable) api.PageTable {
	nodes := append(slices.Clone(t.Nodes), api.Node{Frame: 991})
	deposits := append(slices.Clone(t.Deposits), api.Deposit{Frame: 992})
	t.Nodes, t.Deposits = nodes[:len(nodes)-1], deposits[:len(deposits)-1]
	return t
}

// isMarked reports whether t is equal to want, with the marks in its place.
func isMarked(t, want api.PageTable) bool {
	n, p := len(t.Nodes), len(t.Deposits)
	return same(t, want) && t.Nodes[:n+1][n].Frame == 991 && t.Deposits[:p+1][p].Frame == 992
}

// overwrite changes everything in t.
func overwrite(t api.PageTable) {
	for i := range t.Nodes {
		t.Nodes[i] = api.Node{Frame: 7}
	}
	for i := range t.Deposits {
		t.Deposits[i] = api.Deposit{Frame: 7}
	}
	_, _ = append(t.Nodes, api.Node{}), append(t.Deposits, api.Deposit{})
}

// Rule 'Values'.
func TestArgumentsStay(t *testing.T) {
	table, m := sample()
	frames := func(n int) []int { return []int{2, 1, 993}[:n] }
	for _, s := range []step{
		setStep(1, pageWord(1, 1), nil), setStep(8, pageWord(1, 1), frames(1)), setStep(200, pageWord(1, 1), frames(2)), setStep(200, pageWord(1, 1), frames(1)),
		setHugeStep(1, hugeWord(8, 1), frames(1)), setHugeStep(60, hugeWord(8, 1), frames(1)), setHugeStep(40, hugeWord(8, 1), frames(2)),
		replaceStep(0, swapWord(4)), replaceStep(16, hugeWord(0, 0)), clearStep(0), clearStep(24), clearStep(16), splitStep(10), assembleStep(9), assembleStep(8),
	} {
		argument := withMarks(table)
		out, _, free, e := s.do(argument)
		if !isMarked(argument, table) {
			t.Fatalf("%s: the argument has changed", s.name)
		}
		if e != api.OK {
			continue
		}
		after := m.clone()
		_, wantFree, _ := s.want(after)
		overwrite(argument)
		if !same(out, after.table()) || !slices.Equal(free, wantFree) {
			t.Fatalf("%s: the result changes with the argument", s.name)
		}
		argument = withMarks(table)
		out, _, _, _ = s.do(argument)
		overwrite(out)
		if !isMarked(argument, table) {
			t.Fatalf("%s: the argument changes with the result", s.name)
		}
	}
	given := []int{2, 1, 993}
	if _, e := Set(table, 200, pageWord(1, 1), given[:2]); e != api.OK || !slices.Equal(given, []int{2, 1, 993}) {
		t.Errorf("Set has left %v", given)
	}
	argument := withMarks(table)
	List(argument)
	Frames(argument)
	Check(argument)
	if !isMarked(argument, table) {
		t.Error("List, Frames or Check has changed the argument")
	}
}
