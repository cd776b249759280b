// Package bitset provides sets of bits of a fixed size. See shared/doc/01-bitset.md.
package bitset

import (
	"math/bits"
	"slices"

	"estovers/api"
)

// wordBits is the number of bits in a word.
const wordBits = 64

// Check returns OK if b is a valid set of bits: ErrRange if Size is not from 0 to MaxBits, ErrForm if the number of words does not fit or an unused bit is set.
func Check(b api.Bits) int {
	if b.Size < 0 || b.Size > api.MaxBits {
		return api.ErrRange
	}
	n := wordCount(b.Size)
	if len(b.Words) != n {
		return api.ErrForm
	}
	if n > 0 && b.Words[n-1]&^span(n-1, 0, b.Size) != 0 {
		return api.ErrForm
	}
	return api.OK
}

// New returns a set of size bits, all of them 0.
func New(size int) (api.Bits, int) {
	if size < 0 || size > api.MaxBits {
		return api.Bits{}, api.ErrRange
	}
	return api.Bits{Size: size, Words: make([]uint64, wordCount(size))}, api.OK
}

// Get returns bit i; false if there is none.
func Get(b api.Bits, i int) bool {
	if Check(b) != api.OK || i < 0 || i >= b.Size {
		return false
	}
	return b.Words[i/wordBits]>>(i%wordBits)&1 == 1
}

// Set returns b with bit i set to on.
func Set(b api.Bits, i int, on bool) (api.Bits, int) {
	// Fill refuses the greatest int as well: the end of the range wraps around to below its beginning.
	return Fill(b, i, i+1, on)
}

// Fill returns b with the bits from..to-1 set to on.
func Fill(b api.Bits, from, to int, on bool) (api.Bits, int) {
	if e := Check(b); e != api.OK {
		return api.Bits{}, e
	}
	if !isRange(b, from, to) {
		return api.Bits{}, api.ErrRange
	}
	words := slices.Clone(b.Words)
	for w := range words {
		if on {
			words[w] |= span(w, from, to)
		} else {
			words[w] &^= span(w, from, to)
		}
	}
	return api.Bits{Size: b.Size, Words: words}, api.OK
}

// Find returns the lowest index that is at least from and whose bit is on, or -1.
func Find(b api.Bits, from int, on bool) int {
	if Check(b) != api.OK || from < 0 {
		return -1
	}
	for w := from / wordBits; w < len(b.Words); w++ {
		if found := equalTo(b, w, on) & span(w, from, b.Size); found != 0 {
			return w*wordBits + bits.TrailingZeros64(found)
		}
	}
	return -1
}

// FindRun returns the lowest multiple of align at which count bits begin that are all on, or -1.
func FindRun(b api.Bits, count, align int, on bool) int {
	if Check(b) != api.OK || count < 1 || align < 1 {
		return -1
	}
	start := 0
search:
	for start <= b.Size-count {
		for w := start / wordBits; w*wordBits < start+count; w++ {
			wrong := equalTo(b, w, !on) & span(w, start, start+count)
			if wrong != 0 {
				// A later start that is not behind the last wrong bit would cover it as well.
				last := w*wordBits + bits.Len64(wrong) - 1
				start = (last/align + 1) * align
				continue search
			}
		}
		return start
	}
	return -1
}

// Count returns the number of bits among from..to-1 that are set.
func Count(b api.Bits, from, to int) int {
	if Check(b) != api.OK || !isRange(b, from, to) {
		return 0
	}
	n := 0
	for w, word := range b.Words {
		n += bits.OnesCount64(word & span(w, from, to))
	}
	return n
}

// And returns the intersection of two sets of the same size.
func And(a, b api.Bits) (api.Bits, int) {
	return combine(a, b, func(x, y uint64) uint64 { return x & y })
}

// Or returns the union of two sets of the same size.
func Or(a, b api.Bits) (api.Bits, int) {
	return combine(a, b, func(x, y uint64) uint64 { return x | y })
}

// Not returns the complement.
func Not(b api.Bits) (api.Bits, int) {
	if e := Check(b); e != api.OK {
		return api.Bits{}, e
	}
	words := slices.Clone(b.Words)
	for w := range words {
		// The unused bits of the last word stay 0: otherwise the result would not be valid.
		words[w] = ^words[w] & span(w, 0, b.Size)
	}
	return api.Bits{Size: b.Size, Words: words}, api.OK
}

// combine applies an operation to the words of two sets of the same size. The operation must make 0 of two zeros, for the unused bits.
func combine(a, b api.Bits, operation func(x, y uint64) uint64) (api.Bits, int) {
	if e := Check(a); e != api.OK {
		return api.Bits{}, e
	}
	if e := Check(b); e != api.OK {
		return api.Bits{}, e
	}
	if a.Size != b.Size {
		return api.Bits{}, api.ErrArg
	}
	words := slices.Clone(a.Words)
	for w := range words {
		words[w] = operation(words[w], b.Words[w])
	}
	return api.Bits{Size: a.Size, Words: words}, api.OK
}

// wordCount returns the number of words of a set of size bits.
func wordCount(size int) int { return (size + wordBits - 1) / wordBits }

// isRange reports whether from..to-1 is a range of indices of b, which may be empty.
func isRange(b api.Bits, from, to int) bool { return 0 <= from && from <= to && to <= b.Size }

// span returns the bits of the word number w whose indices are from..to-1.
func span(w, from, to int) uint64 {
	low := max(from-w*wordBits, 0)
	high := min(to-w*wordBits, wordBits)
	if low >= high {
		return 0
	}
	return ^uint64(0) << low & (^uint64(0) >> (wordBits - high))
}

// equalTo returns the word number w of b with a 1 for each bit that is on; bits behind Size are not meaningful.
func equalTo(b api.Bits, w int, on bool) uint64 {
	if on {
		return b.Words[w]
	}
	return ^b.Words[w]
}
