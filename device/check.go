package device

import (
	"slices"

	"estovers/api"
)

// maxNext is the greatest number of requests that are ever submitted.
const maxNext = 1 << 40

// checkBlocks returns OK, ErrRange for a depth or a number of blocks that no device has, or ErrForm for a block of another size.
func checkBlocks(depth int, blocks [][]byte) int {
	switch {
	case depth < 1 || depth > api.MaxDepth || len(blocks) < 1 || len(blocks) > api.MaxBlocks:
		return api.ErrRange
	case slices.ContainsFunc(blocks, isNoPage):
		return api.ErrForm
	}
	return api.OK
}

// checkCache returns OK if the cache suits the blocks of d; otherwise ErrOrder or ErrForm.
func checkCache(d api.Device) int {
	for i, c := range d.Cache {
		if !isBlock(d, c.Block) || i > 0 && c.Block <= d.Cache[i-1].Block {
			return api.ErrOrder
		}
	}
	if slices.ContainsFunc(d.Cache, func(c api.Cached) bool { return isNoPage(c.Data) }) {
		return api.ErrForm
	}
	return api.OK
}

// checkQueue returns OK, ErrFull, or the error of the first request that has one: ErrArg, ErrRange, ErrForm, ErrOrder.
func checkQueue(d api.Device) int {
	if len(d.Queue) > d.Depth {
		return api.ErrFull
	}
	before := -1
	for _, r := range d.Queue {
		if err := checkRequest(d, r); err != api.OK {
			return err
		}
		if r.Id <= before || r.Id >= d.Next {
			return api.ErrOrder
		}
		before = r.Id
	}
	return api.OK
}

// checkRequest returns OK if a request suits the blocks of d, whatever its number is; otherwise ErrArg, ErrRange or ErrForm.
func checkRequest(d api.Device, r api.Request) int {
	isFlush := r.Kind == api.RequestFlush
	isWrite := r.Kind == api.RequestWrite
	switch {
	case !isFlush && !isWrite && r.Kind != api.RequestRead:
		return api.ErrArg
	case isFlush && r.Block != 0 || !isBlock(d, r.Block):
		return api.ErrRange
	case isWrite && isNoPage(r.Data) || !isWrite && len(r.Data) > 0:
		return api.ErrForm
	}
	return api.OK
}

// checkSubmit returns OK if r, with the next number, can be appended to the queue of d; otherwise the error of Check, ErrArg, ErrRange, ErrForm, ErrLimit or ErrFull.
func checkSubmit(d api.Device, r api.Request) int {
	if err := Check(d); err != api.OK {
		return err
	}
	if err := checkRequest(d, r); err != api.OK {
		return err
	}
	switch {
	case d.Next == maxNext:
		return api.ErrLimit
	case len(d.Queue) == d.Depth:
		return api.ErrFull
	}
	return api.OK
}

func isBlock(d api.Device, n int) bool { return n >= 0 && n < len(d.Blocks) }

func isNoPage(data []byte) bool { return len(data) != api.PageSize }
