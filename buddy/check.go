package buddy

import "estovers/api"

// hasParameters reports whether the parameters of z are in range.
func hasParameters(z api.Zone) bool {
	isKind := z.Kind == api.ZoneNormal || z.Kind == api.ZoneMovable
	// Start and Count may be so great that their sum is not an int.
	isRange := z.Start >= 0 && z.Count >= 1 && z.Count <= api.MaxFrames && z.Start <= api.MaxFrames-z.Count
	return z.Node >= 0 && z.Node < api.MaxNodes && isKind && isRange && z.Min >= 0 && z.Min <= z.Count
}

// checkList returns OK, or the error of the first element that has one of a list of blocks of an order: ErrForm, ErrOrder.
func checkList(z api.Zone, l []int, order int) int {
	for i, frame := range l {
		switch {
		case !isBlock(z, frame, order):
			return api.ErrForm
		case i > 0 && frame <= l[i-1]:
			return api.ErrOrder
		}
	}
	return api.OK
}

// overlap reports whether two free blocks, which are in the zone, have a frame in common.
func overlap(z api.Zone) bool {
	var seen [api.MaxFrames]bool
	for order, l := range z.Free {
		for _, frame := range l {
			for f := frame; f < frame+1<<order; f++ {
				if seen[f] {
					return true
				}
				seen[f] = true
			}
		}
	}
	return false
}

// hasBuddies reports whether two free blocks could be joined. If both are in the zone, then so is their union.
func hasBuddies(z api.Zone) bool {
	for order := range api.MaxOrder {
		for _, frame := range z.Free[order] {
			if _, ok := find(z, frame^1<<order, order); ok {
				return true
			}
		}
	}
	return false
}

func isOrder(n int) bool { return n >= 0 && n <= api.MaxOrder }

// isBlock reports whether a block of an order is in a zone, whose parameters are in range.
func isBlock(z api.Zone, frame, order int) bool {
	return frame == firstOf(frame, order) && frame >= z.Start && frame <= z.Start+z.Count-1<<order
}
