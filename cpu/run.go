package cpu

import "sextant/api"

// Run tells what it has done.
func (m *Machine) Run() api.Run {
	ahead := *m // what Next does of its own changes no list
	r := m.done()
	r.State, r.Loc = stateOf(ahead.Next())
	return r
}

// stateOf is the state of a run that wants this, and its cell.
func stateOf(w api.Want) (state, loc int) {
	switch w.What {
	case api.WantHalt:
		return api.Halted, 0
	case api.WantFuel:
		return api.Spent, 0
	case api.WantFault:
		return api.Faulty, 0
	case api.WantLoad:
		return api.Hungry, w.Loc
	case api.WantStore:
		if w.Ex {
			return api.Undecided, w.Loc
		}
	}
	return 0, 0
}

// done tells all of a run but its state.
func (m *Machine) done() api.Run {
	r := api.Run{Outs: append([]uint64(nil), m.outs...), Used: m.used}
	for b, d := range m.deeds {
		r.Events = append(r.Events, d.event)
		if d.paired {
			r.Rmw = append(r.Rmw, api.Pair{A: b - 1, B: b})
		}
	}
	r.Addr = m.pairs(func(d *deed) taints { return d.addr })
	r.Data = m.pairs(func(d *deed) taints { return d.data })
	r.Ctrl = m.pairs(func(d *deed) taints { return d.ctrl })
	return r
}

// pairs are the reads and what hangs on them: by the reads, and of one read by the others.
func (m *Machine) pairs(by func(d *deed) taints) (out []api.Pair) {
	for a := range m.deeds {
		for b := a + 1; b < len(m.deeds); b++ {
			if by(&m.deeds[b]).has(read(a)) {
				out = append(out, api.Pair{A: a, B: b})
			}
		}
	}
	return out
}
