package faultplan

import "estovers/api"

// isFormed reports whether what the case of a page in a region says agrees.
func isFormed(c api.FaultCase) bool {
	switch {
	case !c.File && (c.Shared || c.Behind || c.Busy || c.Backed || c.Dirty || c.Full):
		return false
	case c.Missing > 0 && c.Entry != api.EntryNone:
		return false
	case c.Shared && c.Own, c.Only && !c.Own:
		return false
	case c.Writable && (!isPage(c) || !canWrite(c) || !c.Only && !(c.Shared && c.Dirty)):
		return false
	}
	switch c.Entry {
	case api.EntryNone:
		return !c.Own && !c.Only && (c.File || !c.Cached) && (c.Cached || !c.Transit)
	case api.EntrySwap:
		return c.Own && (c.Cached || !c.Transit)
	case api.EntryMove:
		return !c.Cached && (c.File || c.Own) && c.Transit
	}
	return !c.Cached && (c.File || c.Own)
}

// carryOut returns the case in which a plan leaves a case.
func carryOut(c api.FaultCase, plan api.FaultPlan) api.FaultCase {
	switch plan.Action {
	case api.ActWait:
		return awaited(c, plan.Wait)
	case api.ActReuse:
		c.Writable = true
	case api.ActDirty:
		c.Dirty, c.Writable = true, true
	case api.ActCopy:
		c.Own, c.Only, c.Writable = true, true, true
	case api.ActCached:
		c.Entry, c.Cached, c.Writable = api.EntryPage, false, c.Only && canWrite(c)
	case api.ActZero:
		c.Entry, c.Missing = api.EntryPage, 0
		c.Own, c.Only, c.Writable = true, true, canWrite(c)
	case api.ActMap:
		c.Entry, c.Missing, c.Cached = api.EntryPage, 0, false
	case api.ActSwapIn, api.ActFresh, api.ActRead:
		c.Cached = true
	}
	return c
}

// awaited returns the case in which there is no need to wait any more.
func awaited(c api.FaultCase, wait int) api.FaultCase {
	switch wait {
	case api.WaitFile:
		c.Busy = false
	case api.WaitFrame:
		c.Transit = false
		if c.Entry == api.EntryMove {
			c.Entry = api.EntryPage
		}
	case api.WaitDirty:
		c.Full = false
	}
	return c
}

// hasCopy reports whether the process has a copy of its own.
func hasCopy(c api.FaultCase) bool {
	return isSwap(c) || c.Own && (isPage(c) || c.Entry == api.EntryMove)
}

func canWrite(c api.FaultCase) bool { return c.Prot == api.ProtRead+api.ProtWrite }

func isPage(c api.FaultCase) bool { return c.Entry == api.EntryPage }

func isSwap(c api.FaultCase) bool { return c.Entry == api.EntrySwap }

func isKind(entry int) bool {
	switch entry {
	case api.EntryNone, api.EntryPage, api.EntrySwap, api.EntryMove:
		return true
	}
	return false
}
