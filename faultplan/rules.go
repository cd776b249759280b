package faultplan

import "estovers/api"

// rule is a plan and the cases for which it is made, unless an earlier rule applies to them.
type rule struct {
	applies func(c api.FaultCase) bool
	plan    api.FaultPlan
}

// rules returns the rules in their order. Only the number of missing tables is taken from the case itself, since the plans contain it.
func rules(missing int) []rule {
	return []rule{
		{func(c api.FaultCase) bool { return !c.Region }, refuse(api.ErrFault)},
		{func(c api.FaultCase) bool { return c.Write && !canWrite(c) }, refuse(api.ErrAccess)},
		{func(c api.FaultCase) bool { return c.Behind && !hasCopy(c) }, refuse(api.ErrBus)},
		{func(c api.FaultCase) bool { return isPage(c) && (!c.Write || c.Writable) }, api.FaultPlan{Action: api.ActNone}},
		{func(c api.FaultCase) bool { return c.Busy && !hasCopy(c) }, wait(api.WaitFile)},
		{func(c api.FaultCase) bool { return c.Transit }, wait(api.WaitFrame)},
		{func(c api.FaultCase) bool { return isPage(c) && c.Own && c.Only }, api.FaultPlan{Action: api.ActReuse}},
		{func(c api.FaultCase) bool { return isPage(c) && !c.Shared }, api.FaultPlan{Action: api.ActCopy, User: 1}},
		{func(c api.FaultCase) bool { return isPage(c) && !c.Dirty && c.Full }, wait(api.WaitDirty)},
		{isPage, api.FaultPlan{Action: api.ActDirty}},
		{func(c api.FaultCase) bool { return isSwap(c) && c.Cached }, api.FaultPlan{Action: api.ActCached}},
		{isSwap, api.FaultPlan{Action: api.ActSwapIn, User: 1}},
		{func(c api.FaultCase) bool { return !c.File }, api.FaultPlan{Action: api.ActZero, Kernel: missing, User: 1}},
		{func(c api.FaultCase) bool { return c.Cached }, api.FaultPlan{Action: api.ActMap, Kernel: missing}},
		{func(c api.FaultCase) bool { return !c.Backed }, api.FaultPlan{Action: api.ActFresh, Kernel: missing, User: 1}},
		{func(c api.FaultCase) bool { return true }, api.FaultPlan{Action: api.ActRead, User: 1}},
	}
}

func refuse(e int) api.FaultPlan { return api.FaultPlan{Action: api.ActError, Error: e} }

func wait(on int) api.FaultPlan { return api.FaultPlan{Action: api.ActWait, Wait: on} }
