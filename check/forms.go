package check

import "sextant/api"

// Sets of modes, a bit for each.
const (
	noMode = 1 << 0 // of what has none: its field is 0
	loads  = 1<<api.Rlx | 1<<api.Acq | 1<<api.SC
	stores = 1<<api.Rlx | 1<<api.Rel | 1<<api.SC
	pairs  = loads | stores | 1<<api.AcqRel
	fences = pairs &^ (1 << api.Rlx)
)

// form is what an act has.
type form struct {
	sets  bool // a local, Dst
	place bool
	exprs int // E, and F behind it
	modes int // those that it may have
	goes  bool
}

// forms are those of all acts.
var forms = [...]form{
	api.ActSet:   {sets: true, exprs: 1, modes: noMode},
	api.ActLoad:  {sets: true, place: true, modes: loads},
	api.ActStore: {place: true, exprs: 1, modes: stores},
	api.ActXchg:  {sets: true, place: true, exprs: 1, modes: pairs},
	api.ActFadd:  {sets: true, place: true, exprs: 1, modes: pairs},
	api.ActCas:   {sets: true, place: true, exprs: 2, modes: pairs},
	api.ActFence: {modes: fences},
	api.ActPrint: {exprs: 1, modes: noMode},
	api.ActJump:  {modes: noMode, goes: true},
	api.ActZero:  {exprs: 1, modes: noMode, goes: true},
}

// acts are those of statements by their kinds: the first one, of those that have several.
var acts = [...]int{
	api.SSet:   api.ActSet,
	api.SLoad:  api.ActLoad,
	api.SStore: api.ActStore,
	api.SXchg:  api.ActXchg,
	api.SFadd:  api.ActFadd,
	api.SCas:   api.ActCas,
	api.SFence: api.ActFence,
	api.SPrint: api.ActPrint,
	api.SIf:    api.ActZero,
	api.SWhile: api.ActZero,
}

// may tells whether an act of that form may have the mode.
func (f form) may(mode int) bool {
	return 0 <= mode && mode <= api.SC && f.modes>>mode&1 == 1
}

// isSize tells whether a place may have that size: 0 is a cell's.
func isSize(size int) bool {
	return 0 <= size && size <= api.MaxArray && size&(size-1) == 0
}

// cellsOf is how many cells a place of that size has.
func cellsOf(size int) int { return max(size, 1) }
