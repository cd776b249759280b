package zonelist

import (
	"math"
	"math/rand"
	"slices"
	"testing"

	"estovers/api"
)

// limits are the limits of int and of the machine, and the numbers beside them.
func limits() []int {
	return []int{math.MinInt, math.MinInt + 1, -1 << 32, -2, -1, 0, 1, 2, 3, 4, 5, 15, 16, 63, 64, 1 << 32, math.MaxInt - 1, math.MaxInt}
}

// zoneOf returns a zone for a number from 0 to 7. Its other fields are not those of a valid zone.
func zoneOf(n int) api.Zone {
	return api.Zone{Node: n / 2, Kind: n % 2, Start: -n, Count: -1, Min: math.MaxInt, Free: [5][]int{{-1, -1}, 4: {n}}}
}

// zonesOf returns zones for numbers from 0 to 7.
func zonesOf(numbers ...int) []api.Zone {
	var out []api.Zone
	for _, n := range numbers {
		out = append(out, zoneOf(n))
	}
	return out
}

// allZones are all lists of at most so many zones.
func allZones(length int) [][]api.Zone {
	out := [][]api.Zone{nil}
	for from := 0; len(out[from]) < length; from++ {
		for n := range 8 {
			out = append(out, append(slices.Clone(out[from]), zoneOf(n)))
		}
	}
	return out
}

// policies are all valid policies, with a few turns.
func policies() []api.Policy {
	out := []api.Policy{{Kind: api.PolicyLocal}}
	for mask := 1; mask <= 15; mask++ {
		out = append(out, api.Policy{Kind: api.PolicyPreferred, Nodes: mask}, api.Policy{Kind: api.PolicyBind, Nodes: mask})
		for _, turn := range []int{0, 1, 2, 3, 7, math.MaxInt} {
			out = append(out, api.Policy{Kind: api.PolicyInterleave, Nodes: mask, Turn: turn})
		}
	}
	return out
}

// oddPolicies are policies with all combinations of these fields, of which most are not valid.
func oddPolicies() []api.Policy {
	var out []api.Policy
	for _, kind := range limits() {
		for _, mask := range limits() {
			for _, turn := range limits() {
				out = append(out, api.Policy{Kind: kind, Nodes: mask, Turn: turn})
			}
		}
	}
	return out
}

// P16.1 to P16.3: all functions, for all short lists of zones.
func TestShortLists(t *testing.T) {
	all := policies()
	for _, zones := range allZones(3) {
		expectAll(t, zones, all, []int{-1, 0, 1, 2, 3, 4})
	}
	for _, zones := range allZones(4) {
		expectAll(t, zones, nil, []int{0, 1, 2, 3})
	}
}

// P16.1 to P16.3: all functions, for many zones.
func TestLongLists(t *testing.T) {
	random := rand.New(rand.NewSource(1))
	all := policies()
	for range 500 {
		var zones []api.Zone
		for range 4 + random.Intn(3) {
			zones = append(zones, zoneOf(random.Intn(8)))
		}
		expectAll(t, zones, all, []int{0, 1, 2, 3})
	}
	for n := range 8 {
		expectAll(t, zonesOf(n, n, n, n, n, n), all, []int{0, 1, 2, 3})
	}
}

type fault struct {
	what  string
	zones []api.Zone
	want  int
}

// with returns six zones of which one has another node and kind.
func with(place, node, kind int) []api.Zone {
	zones := zonesOf(0, 1, 4, 3, 6, 7)
	zones[place].Node, zones[place].Kind = node, kind
	return zones
}

// faults are zones with the results of Check.
func faults() []fault {
	twice := with(1, -1, 0)
	twice[3].Kind = 2
	kindFirst := with(3, -1, 0)
	kindFirst[1].Kind = 2
	return []fault{
		{"no zones", nil, api.OK},
		{"six zones", with(0, 3, 1), api.OK},
		{"seven zones", make([]api.Zone, 7), api.ErrLimit},
		{"seven zones, of which one has no node", append(with(1, 4, 0), api.Zone{}), api.ErrLimit},
		{"seven zones, of which one has no kind", append(with(1, 0, 2), api.Zone{}), api.ErrLimit},
		{"very many zones", make([]api.Zone, 1<<16), api.ErrLimit},
		{"node -1", with(5, -1, 0), api.ErrRange},
		{"node 4", with(0, 4, 1), api.ErrRange},
		{"the least node", with(2, math.MinInt, 1), api.ErrRange},
		{"the greatest node", with(2, math.MaxInt, 1), api.ErrRange},
		{"kind -1", with(5, 0, -1), api.ErrArg},
		{"kind 2", with(0, 3, 2), api.ErrArg},
		{"the least kind", with(2, 1, math.MinInt), api.ErrArg},
		{"the greatest kind", with(2, 1, math.MaxInt), api.ErrArg},
		{"neither node nor kind", with(2, 4, 2), api.ErrRange},
		{"no node, then no kind", twice, api.ErrRange},
		{"no kind, then no node", kindFirst, api.ErrArg},
	}
}

// P16.1, and which errors of the other functions come first.
func TestFaults(t *testing.T) {
	some := []api.Policy{{}, {Kind: -1}, {Kind: 4, Nodes: 1}, {Kind: api.PolicyBind}, {Kind: api.PolicyBind, Nodes: 3}, {Kind: api.PolicyPreferred, Nodes: 16}, {Kind: api.PolicyInterleave, Nodes: 3, Turn: -1}, {Kind: api.PolicyInterleave, Nodes: 3, Turn: 1}}
	for _, f := range faults() {
		if e := Check(f.zones); e != f.want {
			t.Errorf("%s: Check = %d, want %d", f.what, e, f.want)
		}
		expectAll(t, f.zones, some, limits())
	}
	for _, node := range limits() {
		for _, kind := range limits() {
			expectCheck(t, []api.Zone{zoneOf(3), {Node: node, Kind: kind}})
		}
	}
}

// P16.3: the errors of policies, and the fields that are ignored.
func TestPolicies(t *testing.T) {
	zones := zonesOf(0, 1, 4, 3)
	for _, p := range oddPolicies() {
		for _, node := range []int{math.MinInt, -1, 0, 3, 4, math.MaxInt} {
			expectPick(t, zones, p, node, false)
		}
	}
	for _, c := range []struct {
		what string
		p    api.Policy
		node int
		want int
	}{
		{"kind -1", api.Policy{Kind: -1, Nodes: 1}, 0, api.ErrArg},
		{"kind 4", api.Policy{Kind: 4, Nodes: 1}, 0, api.ErrArg},
		{"no kind and no node", api.Policy{Kind: 4, Nodes: 1}, 4, api.ErrArg},
		{"the local policy ignores the mask and the turn", api.Policy{Nodes: -1, Turn: -1}, 0, api.OK},
		{"the local policy, and no node", api.Policy{Nodes: -1}, 4, api.ErrRange},
		{"an empty mask", api.Policy{Kind: api.PolicyPreferred}, 0, api.ErrArg},
		{"an empty mask to bind", api.Policy{Kind: api.PolicyBind}, 0, api.ErrArg},
		{"an empty mask to interleave", api.Policy{Kind: api.PolicyInterleave}, 0, api.ErrArg},
		{"a negative mask", api.Policy{Kind: api.PolicyBind, Nodes: -1}, 0, api.ErrArg},
		{"a mask with too many bits", api.Policy{Kind: api.PolicyBind, Nodes: 17}, 0, api.ErrArg},
		{"a full mask", api.Policy{Kind: api.PolicyBind, Nodes: 15}, 0, api.OK},
		{"no mask and no node", api.Policy{Kind: api.PolicyPreferred, Nodes: 16}, -1, api.ErrArg},
		{"a negative turn", api.Policy{Kind: api.PolicyInterleave, Nodes: 1, Turn: -1}, 0, api.ErrArg},
		{"a negative turn, and no node", api.Policy{Kind: api.PolicyInterleave, Nodes: 1, Turn: -1}, 4, api.ErrArg},
		{"to bind ignores the turn", api.Policy{Kind: api.PolicyBind, Nodes: 1, Turn: -1}, 0, api.OK},
		{"to prefer ignores the turn", api.Policy{Kind: api.PolicyPreferred, Nodes: 1, Turn: -1}, 0, api.OK},
		{"to prefer another node than none", api.Policy{Kind: api.PolicyPreferred, Nodes: 1}, 4, api.ErrRange},
		{"to interleave other nodes than none", api.Policy{Kind: api.PolicyInterleave, Nodes: 1}, -1, api.ErrRange},
		{"the greatest turn", api.Policy{Kind: api.PolicyInterleave, Nodes: 7, Turn: math.MaxInt}, 0, api.OK},
	} {
		if got, e := Pick(zones, c.p, c.node, false); e != c.want || e != api.OK && got != nil {
			t.Errorf("%s: %v, %d, want %d", c.what, got, e, c.want)
		}
	}
}

// suitable returns the indices of the zones that suit an allocation, ascending.
func suitable(zones []api.Zone, kernel bool) []int {
	var out []int
	for i, z := range zones {
		if z.Kind == api.ZoneNormal || !kernel {
			out = append(out, i)
		}
	}
	return out
}

// P16.5: Order contains each suitable zone exactly once; Bind never leaves its nodes.
func TestConsequences(t *testing.T) {
	for _, zones := range allZones(3) {
		for node := range 4 {
			for _, kernel := range []bool{true, false} {
				order, _ := Order(zones, node, kernel)
				if !slices.Equal(slices.Sorted(slices.Values(order)), suitable(zones, kernel)) {
					t.Fatalf("Order(%v, %d, %t) = %v", zones, node, kernel, order)
				}
				for mask := 1; mask <= 15; mask++ {
					bound, _ := Pick(zones, api.Policy{Kind: api.PolicyBind, Nodes: mask}, node, kernel)
					for _, i := range bound {
						if !slices.Contains(masked(mask), zones[i].Node) {
							t.Fatalf("to bind %v to the nodes of %d from node %d gives %v", zones, mask, node, bound)
						}
					}
				}
			}
		}
	}
}

// P16.5: in k consecutive turns Interleave begins once with each of the k nodes of its mask.
func TestTurns(t *testing.T) {
	zones := zonesOf(6, 0, 4, 2)
	for mask := 1; mask <= 15; mask++ {
		nodes := masked(mask)
		for _, from := range []int{0, 1, 2, 3, 4, 1000, math.MaxInt - 3} {
			var begins []int
			for turn := range nodes {
				got, e := Pick(zones, api.Policy{Kind: api.PolicyInterleave, Nodes: mask, Turn: from + turn}, 1, true)
				if e != api.OK || len(got) != 4 {
					t.Fatalf("the turn %d of the mask %d gives %v, %d", from+turn, mask, got, e)
				}
				begins = append(begins, zones[got[0]].Node)
			}
			if !slices.Equal(slices.Sorted(slices.Values(begins)), nodes) {
				t.Errorf("the turns from %d on of the mask %d begin with %v", from, mask, begins)
			}
		}
	}
}

// P16.4
func TestArgumentsStay(t *testing.T) {
	fresh := func() []api.Zone { return zonesOf(7, 0, 1, 4, 3, 6, 2)[:6] }
	same := func(a, b api.Zone) bool {
		return a.Node == b.Node && a.Kind == b.Kind && a.Start == b.Start && a.Count == b.Count && a.Min == b.Min && slices.EqualFunc(a.Free[:], b.Free[:], slices.Equal[[]int])
	}
	zones := fresh()
	for _, p := range policies() {
		for node := range 4 {
			for _, kernel := range []bool{true, false} {
				var results [][]int
				for range 2 {
					nodes, _ := Nodes(zones, node)
					order, _ := Order(zones, node, kernel)
					pick, _ := Pick(zones, p, node, kernel)
					results = append(results, nodes, order, pick)
				}
				// A result that shared its memory with another one would change with it.
				for i, l := range results[:3] {
					want := slices.Clone(results[i+3])
					for j := range l[:cap(l)] {
						l[:cap(l)][j] = -9
					}
					if !slices.Equal(results[i+3], want) {
						t.Fatalf("two results for %v from node %d share memory", p, node)
					}
				}
				expectPick(t, zones, p, node, kernel)
				if !slices.EqualFunc(zones[:7], fresh()[:7], same) {
					t.Fatalf("the zones have changed after %v from node %d", p, node)
				}
			}
		}
	}
}

// The examples of the chapter.
func TestExamples(t *testing.T) {
	zones := []api.Zone{{Node: 0, Kind: api.ZoneNormal}, {Node: 0, Kind: api.ZoneMovable}, {Node: 2, Kind: api.ZoneNormal}, {Node: 1, Kind: api.ZoneMovable}}
	expect := func(what string, got []int, e int, want ...int) {
		t.Helper()
		if e != api.OK || !slices.Equal(got, want) {
			t.Errorf("%s: %v, %d, want %v", what, got, e, want)
		}
	}
	got, e := Nodes(zones, 1)
	expect("Nodes", got, e, 1, 0, 2)
	got, e = Order(zones, 1, false)
	expect("Order for users", got, e, 3, 1, 0, 2)
	got, e = Order(zones, 1, true)
	expect("Order for the kernel", got, e, 0, 2)
	got, e = Pick(zones, api.Policy{Kind: api.PolicyBind, Nodes: 5}, 1, false)
	expect("Bind", got, e, 1, 0, 2)
	got, e = Pick(zones, api.Policy{Kind: api.PolicyInterleave, Nodes: 6, Turn: 3}, 1, false)
	expect("Interleave", got, e, 2, 3, 1, 0)
}
