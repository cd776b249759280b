package durable

import (
	"bytes"
	"slices"

	"estovers/api"
)

// state is what a history leaves. Its pages are those of the blocks and of the events, so results need copies.
type state struct {
	durable [][]byte
	cached  map[int][]byte
	waiting map[int][][]byte // outstanding writes to each block, in the order of submission
}

// after returns the state after a history, which is valid.
func after(blocks [][]byte, l []api.IoEvent) state {
	s := state{durable: slices.Clone(blocks), cached: map[int][]byte{}, waiting: map[int][][]byte{}}
	outstanding := map[int]api.IoEvent{}
	for _, v := range l {
		switch v.Kind {
		case api.IoWrite:
			outstanding[v.Id] = v
		case api.IoDone:
			w := outstanding[v.Id]
			delete(outstanding, v.Id)
			s.cached[w.Block] = w.Data
		case api.IoFlush:
			s.flush()
		}
	}
	// The map has no order: only the history tells which write was submitted first.
	for _, v := range l {
		if _, ok := outstanding[v.Id]; ok && v.Kind == api.IoWrite {
			s.waiting[v.Block] = append(s.waiting[v.Block], v.Data)
		}
	}
	return s
}

func (s *state) flush() {
	for block, data := range s.cached {
		s.durable[block] = data
	}
	// A map that was cleared instead would stay as large as it ever was, for each later flush.
	s.cached = map[int][]byte{}
}

// contents returns the possible contents of a block, each once.
func (s state) contents(block int) [][]byte {
	all := [][]byte{s.durable[block]}
	if data, ok := s.cached[block]; ok {
		all = append(all, data)
	}
	return distinct(append(all, s.waiting[block]...))
}

// distinct returns each page once, at its first place.
func distinct(pages [][]byte) [][]byte {
	seen := map[string]bool{}
	var out [][]byte
	for _, data := range pages {
		if !seen[string(data)] {
			seen[string(data)] = true
			out = append(out, data)
		}
	}
	return out
}

// imageAt returns the image with a number: its places among the choices are the digits of the number, that of the block 0 first, where each digit has as many values as its block has choices.
func imageAt(choices [][][]byte, number int) [][]byte {
	image := make([][]byte, len(choices))
	for block, contents := range slices.Backward(choices) {
		image[block] = contents[number%len(contents)]
		number /= len(contents)
	}
	return image
}

func copyPages(pages [][]byte) [][]byte {
	out := make([][]byte, len(pages))
	for i, data := range pages {
		out[i] = bytes.Clone(data)
	}
	return out
}
