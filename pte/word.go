package pte

import "estovers/api"

// The fields of a word.
const (
	kindMask    uint64 = 1<<3 - 1
	writeBit    uint64 = 1 << 3
	accessedBit uint64 = 1 << 4
	dirtyBit    uint64 = 1 << 5
	hugeBit     uint64 = 1 << 6
	numberShift        = 8
	numberMask  uint64 = 1<<32 - 1
)

// pack returns the word of a well-formed entry.
func pack(e api.Entry) uint64 {
	flags := flag(e.Write, writeBit) | flag(e.Accessed, accessedBit) | flag(e.Dirty, dirtyBit) | flag(e.Huge, hugeBit)
	return uint64(e.Kind) | flags | uint64(e.Number)<<numberShift
}

// flag returns bit if on is true, otherwise 0.
func flag(on bool, bit uint64) uint64 {
	if on {
		return bit
	}
	return 0
}

// unpack returns the fields of any word as an entry, which need not be well-formed.
func unpack(w uint64) api.Entry {
	return api.Entry{
		Kind:     int(w & kindMask),
		Number:   int(w >> numberShift & numberMask),
		Write:    w&writeBit != 0,
		Accessed: w&accessedBit != 0,
		Dirty:    w&dirtyBit != 0,
		Huge:     w&hugeBit != 0,
	}
}

func isKind(kind int) bool { return kind >= api.EntryNone && kind <= api.EntryTable }

// lastNumber returns the greatest number of an entry like e.
func lastNumber(e api.Entry) int {
	last := int(numberMask)
	if e.Kind == api.EntryPage && e.Huge {
		// The last page of a huge page must have a frame, too.
		return last - (api.HugePages - 1)
	}
	return last
}

// suitsKind reports whether the flags of e, and for EntryNone its number, suit its kind.
func suitsKind(e api.Entry) bool {
	switch e.Kind {
	case api.EntryNone:
		return e == api.Entry{}
	case api.EntrySwap, api.EntryTable:
		return e == api.Entry{Kind: e.Kind, Number: e.Number}
	case api.EntryMove:
		return e == api.Entry{Kind: e.Kind, Number: e.Number, Write: e.Write}
	}
	return true
}
