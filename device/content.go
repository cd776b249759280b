package device

import (
	"bytes"
	"cmp"
	"slices"

	"estovers/api"
)

// carryOut completes a request that d, which is valid, has had in its queue.
func carryOut(d *api.Device, r *api.Request) {
	switch r.Kind {
	case api.RequestRead:
		r.Data = bytes.Clone(content(*d, r.Block))
	case api.RequestWrite:
		putCached(d, r.Block, bytes.Clone(r.Data))
	case api.RequestFlush:
		for _, c := range d.Cache {
			d.Blocks[c.Block] = c.Data
		}
		d.Cache = nil
	}
}

// findCached returns the place of a block in the cache of d, and whether it is there.
func findCached(d api.Device, block int) (int, bool) {
	return slices.BinarySearchFunc(d.Cache, block, func(c api.Cached, block int) int { return cmp.Compare(c.Block, block) })
}

// putCached keeps data, which become the content of a block in the cache of d.
func putCached(d *api.Device, block int, data []byte) {
	i, ok := findCached(*d, block)
	if ok {
		d.Cache[i].Data = data
		return
	}
	d.Cache = slices.Insert(d.Cache, i, api.Cached{Block: block, Data: data})
}

// content returns what a read of a block of d, which is valid, returns.
func content(d api.Device, block int) []byte {
	if i, ok := findCached(d, block); ok {
		return d.Cache[i].Data
	}
	return d.Blocks[block]
}

// losable returns the contents of d that a loss of power may lose, in the order in which Crash looks at them.
func losable(d api.Device) []api.Cached {
	out := slices.Clone(d.Cache)
	for _, r := range d.Queue {
		if r.Kind == api.RequestWrite {
			out = append(out, api.Cached{Block: r.Block, Data: r.Data})
		}
	}
	return out
}

func clone(d api.Device) api.Device {
	out := api.Device{Depth: d.Depth, Next: d.Next}
	for _, data := range d.Blocks {
		out.Blocks = append(out.Blocks, bytes.Clone(data))
	}
	for _, c := range d.Cache {
		out.Cache = append(out.Cache, api.Cached{Block: c.Block, Data: bytes.Clone(c.Data)})
	}
	for _, r := range d.Queue {
		out.Queue = append(out.Queue, copyRequest(r))
	}
	return out
}

func copyRequest(r api.Request) api.Request {
	r.Data = bytes.Clone(r.Data)
	return r
}
