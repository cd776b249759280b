package durable

import (
	"slices"

	"estovers/api"
)

// checkEvent returns OK if an event can follow others, or its error: ErrArg, ErrRange, ErrForm, ErrExist, ErrNone. The writes before it are the keys of writes, with whether they are outstanding.
func checkEvent(v api.IoEvent, blocks int, writes map[int]bool) int {
	switch v.Kind {
	case api.IoWrite:
		return checkWrite(v, blocks, writes)
	case api.IoDone:
		if v.Block != 0 || len(v.Data) > 0 {
			return api.ErrArg
		}
		if !writes[v.Id] {
			return api.ErrNone
		}
		return api.OK
	case api.IoFlush:
		if v.Id != 0 || v.Block != 0 || len(v.Data) > 0 {
			return api.ErrArg
		}
		return api.OK
	}
	return api.ErrArg
}

// checkWrite is checkEvent for a submission.
func checkWrite(v api.IoEvent, blocks int, writes map[int]bool) int {
	_, isKnown := writes[v.Id]
	switch {
	case !isBlock(v.Block, blocks):
		return api.ErrRange
	case isNoPage(v.Data):
		return api.ErrForm
	case isKnown:
		return api.ErrExist
	}
	return api.OK
}

// place returns the place of the event of a kind for a write, or -1.
func place(l []api.IoEvent, kind, id int) int {
	return slices.IndexFunc(l, func(v api.IoEvent) bool { return v.Kind == kind && v.Id == id })
}

func isFlush(v api.IoEvent) bool { return v.Kind == api.IoFlush }

func isBlock(n, blocks int) bool { return n >= 0 && n < blocks }

func isNoPage(data []byte) bool { return len(data) != api.PageSize }
