package src

import "sextant/api"

// pair is what an RMW has to remember.
type pair struct {
	e, f uint64 // the values of its expressions
	old  uint64 // what it has read
}

// moments are the work of an act: the first when its turn comes, each other one when what was wanted ahead of it is fed. Each lets the act want something, or ends it.
type moments [3]func(m *Machine, a *api.Act, fed uint64)

// works are those of all acts.
func works() [api.ActZero + 1]moments {
	return [...]moments{
		api.ActSet:   {(*Machine).set},
		api.ActLoad:  {(*Machine).load, (*Machine).keep},
		api.ActStore: {(*Machine).store, (*Machine).pass},
		api.ActXchg:  {(*Machine).open, (*Machine).exchange, (*Machine).shut},
		api.ActFadd:  {(*Machine).open, (*Machine).add, (*Machine).shut},
		api.ActCas:   {(*Machine).openTwo, (*Machine).compare, (*Machine).shut},
		api.ActFence: {(*Machine).fence, (*Machine).pass},
		api.ActPrint: {(*Machine).output, (*Machine).pass},
		api.ActJump:  {(*Machine).jump},
		api.ActZero:  {(*Machine).zero},
	}
}

// pairModes are the modes of an RMW's read and write, by its own.
var pairModes = [...]struct{ read, write int }{
	api.Rlx:    {read: api.Rlx, write: api.Rlx},
	api.Acq:    {read: api.Acq, write: api.Rlx},
	api.Rel:    {read: api.Rlx, write: api.Rel},
	api.AcqRel: {read: api.Acq, write: api.Rel},
	api.SC:     {read: api.SC, write: api.SC},
}

func (m *Machine) halted() bool { return m.at == len(m.acts) }

// goesByItself tells whether the act that comes next wants nothing: there is no more to it than its beginning.
func (m *Machine) goesByItself() bool { return works()[m.acts[m.at].Op][1] == nil }

// work does the next moment's work of the act that is due.
func (m *Machine) work(fed uint64) {
	a := &m.acts[m.at]
	works()[a.Op][m.moment](m, a, fed)
}

// wants leaves the act till it is fed.
func (m *Machine) wants(w api.Want) {
	m.want = w
	m.moment++
}

// goTo ends the act.
func (m *Machine) goTo(act int) {
	m.at, m.moment, m.want, m.pair = act, 0, api.Want{}, pair{}
}

func (m *Machine) value(e []api.Node) uint64 { return value(e, m.locals) }

func (m *Machine) cell(a *api.Act) int {
	if a.Size == 0 {
		return a.Base
	}
	return a.Base + int(m.value(a.Index)%uint64(a.Size))
}

func (m *Machine) set(a *api.Act, _ uint64) { m.keep(a, m.value(a.E)) }

func (m *Machine) jump(a *api.Act, _ uint64) { m.goTo(a.To) }

func (m *Machine) zero(a *api.Act, _ uint64) {
	if m.value(a.E) == 0 {
		m.goTo(a.To)
	} else {
		m.goTo(m.at + 1)
	}
}

func (m *Machine) output(a *api.Act, _ uint64) {
	m.wants(api.Want{What: api.WantPrint, Val: m.value(a.E)})
}

func (m *Machine) fence(a *api.Act, _ uint64) {
	m.wants(api.Want{What: api.WantFence, Mode: a.Mode})
}

func (m *Machine) store(a *api.Act, _ uint64) {
	m.wants(api.Want{What: api.WantStore, Loc: m.cell(a), Val: m.value(a.E), Mode: a.Mode})
}

func (m *Machine) load(a *api.Act, _ uint64) {
	m.wants(api.Want{What: api.WantLoad, Loc: m.cell(a), Mode: a.Mode})
}

// open begins an RMW.
func (m *Machine) open(a *api.Act, _ uint64) {
	m.pair.e = m.value(a.E)
	m.wants(api.Want{What: api.WantLoad, Loc: m.cell(a), Mode: pairModes[a.Mode].read, Ex: true})
}

// openTwo begins an RMW of two expressions.
func (m *Machine) openTwo(a *api.Act, _ uint64) {
	m.pair.f = m.value(a.F)
	m.open(a, 0)
}

func (m *Machine) exchange(a *api.Act, read uint64) { m.write(a, read, m.pair.e) }

func (m *Machine) add(a *api.Act, read uint64) { m.write(a, read, read+m.pair.e) }

func (m *Machine) compare(a *api.Act, read uint64) {
	if read == m.pair.e {
		m.write(a, read, m.pair.f)
	} else {
		m.keep(a, read)
	}
}

// write goes on with an RMW, in the cell that was read.
func (m *Machine) write(a *api.Act, read, val uint64) {
	m.pair.old = read
	m.wants(api.Want{What: api.WantStore, Loc: m.want.Loc, Val: val, Mode: pairModes[a.Mode].write, Ex: true})
}

// shut ends an RMW that has written.
func (m *Machine) shut(a *api.Act, _ uint64) { m.keep(a, m.pair.old) }

// keep ends an act that sets a local.
func (m *Machine) keep(a *api.Act, v uint64) {
	m.locals[a.Dst] = v
	m.goTo(m.at + 1)
}

// pass ends an act that was only to be done.
func (m *Machine) pass(*api.Act, uint64) { m.goTo(m.at + 1) }

// copyActs is made of a list that is handed in: it may be changed afterwards.
func copyActs(list []api.Act) []api.Act {
	out := append([]api.Act(nil), list...)
	for i := range out {
		a := &out[i]
		a.Index, a.E, a.F = copyNodes(a.Index), copyNodes(a.E), copyNodes(a.F)
	}
	return out
}

func copyNodes(e []api.Node) []api.Node { return append([]api.Node(nil), e...) }
