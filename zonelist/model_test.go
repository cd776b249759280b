package zonelist

import (
	"slices"
	"testing"

	"estovers/api"
)

// checked is the promise of Check.
func checked(zones []api.Zone) int {
	if len(zones) > 6 {
		return api.ErrLimit
	}
	for _, z := range zones {
		if z.Node < 0 || z.Node > 3 {
			return api.ErrRange
		}
		if z.Kind != 0 && z.Kind != 1 {
			return api.ErrArg
		}
	}
	return api.OK
}

// hasZone reports whether a node has a zone.
func hasZone(zones []api.Zone, node int) bool {
	return slices.ContainsFunc(zones, func(z api.Zone) bool { return z.Node == node })
}

// nodesFrom is the promise of Nodes.
func nodesFrom(zones []api.Zone, node int) ([]int, int) {
	if e := checked(zones); e != api.OK {
		return nil, e
	}
	if node < 0 || node > 3 {
		return nil, api.ErrRange
	}
	var out []int
	for distance := range 4 {
		for _, n := range []int{node - distance, node + distance} {
			if hasZone(zones, n) && !slices.Contains(out, n) {
				out = append(out, n)
			}
		}
	}
	return out, api.OK
}

// ordered is the promise of Order.
func ordered(zones []api.Zone, node int, kernel bool) ([]int, int) {
	nodes, e := nodesFrom(zones, node)
	var out []int
	for _, n := range nodes {
		for _, kind := range []int{api.ZoneMovable, api.ZoneNormal} {
			for i, z := range zones {
				if z.Node == n && z.Kind == kind && (kind == api.ZoneNormal || !kernel) {
					out = append(out, i)
				}
			}
		}
	}
	return out, e
}

// masked returns the nodes in a mask from 0 to 15.
func masked(mask int) []int {
	var out []int
	for n, bit := range []int{1, 2, 4, 8} {
		if mask/bit%2 == 1 {
			out = append(out, n)
		}
	}
	return out
}

// refusal is the part of the promise of Pick that is about errors.
func refusal(zones []api.Zone, p api.Policy, node int) int {
	if e := checked(zones); e != api.OK {
		return e
	}
	if !slices.Contains([]int{0, 1, 2, 3}, p.Kind) {
		return api.ErrArg
	}
	if p.Kind != 0 && (p.Nodes < 1 || p.Nodes > 15) {
		return api.ErrArg
	}
	if p.Kind == 3 && p.Turn < 0 {
		return api.ErrArg
	}
	if node < 0 || node > 3 {
		return api.ErrRange
	}
	return api.OK
}

// picked is the promise of Pick.
func picked(zones []api.Zone, p api.Policy, node int, kernel bool) ([]int, int) {
	if e := refusal(zones, p, node); e != api.OK {
		return nil, e
	}
	if p.Kind == api.PolicyLocal {
		return ordered(zones, node, kernel)
	}
	nodes := masked(p.Nodes)
	switch p.Kind {
	case api.PolicyPreferred:
		return ordered(zones, nodes[0], kernel)
	case api.PolicyInterleave:
		return ordered(zones, nodes[p.Turn%len(nodes)], kernel)
	}
	var out []int
	all, e := ordered(zones, node, kernel)
	for _, i := range all {
		if slices.Contains(nodes, zones[i].Node) {
			out = append(out, i)
		}
	}
	return out, e
}

func expectCheck(t *testing.T, zones []api.Zone) {
	t.Helper()
	if got, want := Check(zones), checked(zones); got != want {
		t.Fatalf("Check(%v) = %d, want %d", zones, got, want)
	}
}

func expectNodes(t *testing.T, zones []api.Zone, node int) {
	t.Helper()
	got, e := Nodes(zones, node)
	want, wantError := nodesFrom(zones, node)
	if !slices.Equal(got, want) || e != wantError {
		t.Fatalf("Nodes(%v, %d) = %v, %d, want %v, %d", zones, node, got, e, want, wantError)
	}
}

func expectOrder(t *testing.T, zones []api.Zone, node int, kernel bool) {
	t.Helper()
	got, e := Order(zones, node, kernel)
	want, wantError := ordered(zones, node, kernel)
	if !slices.Equal(got, want) || e != wantError {
		t.Fatalf("Order(%v, %d, %t) = %v, %d, want %v, %d", zones, node, kernel, got, e, want, wantError)
	}
}

func expectPick(t *testing.T, zones []api.Zone, p api.Policy, node int, kernel bool) {
	t.Helper()
	got, e := Pick(zones, p, node, kernel)
	want, wantError := picked(zones, p, node, kernel)
	if !slices.Equal(got, want) || e != wantError {
		t.Fatalf("Pick(%v, %v, %d, %t) = %v, %d, want %v, %d", zones, p, node, kernel, got, e, want, wantError)
	}
}

// expectAll compares all functions with their promises.
func expectAll(t *testing.T, zones []api.Zone, policies []api.Policy, nodes []int) {
	t.Helper()
	expectCheck(t, zones)
	for _, node := range nodes {
		expectNodes(t, zones, node)
		for _, kernel := range []bool{true, false} {
			expectOrder(t, zones, node, kernel)
			for _, p := range policies {
				expectPick(t, zones, p, node, kernel)
			}
		}
	}
}
