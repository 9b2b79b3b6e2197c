package cpu

import "sextant/api"

// read is one's number among the events.
type read int

// taints are the reads on which something hangs.
type taints = set[read]

// deed is an event, and what it hangs on.
type deed struct {
	event            api.Event
	addr, data, ctrl taints
	paired           bool // with the read right ahead of it: any other event would have closed the monitor
}

// give does what is wanted.
func (m *Machine) give(w api.Want, v uint64) {
	m.own = 0
	if m.halfway() {
		m.finish()
		return
	}
	i := m.list[m.place]
	switch w.What {
	case api.WantLoad:
		m.load(i, w, v)
	case api.WantStore:
		m.store(i, w, v)
	case api.WantFence:
		m.note(deed{event: api.Event{Kind: api.Fence, Loc: -1, Mode: w.Mode}})
		m.monitor = monitor{}
		m.place++
	case api.WantPrint:
		m.outs = append(m.outs, w.Val)
		m.place++
	}
}

// note writes a deed down. Whatever it is, it hangs on the way.
func (m *Machine) note(d deed) {
	d.ctrl = m.way
	m.deeds = append(m.deeds, d)
}

// load does a load, and leaves the store for later, if the instruction has one too.
func (m *Machine) load(i api.Ins, w api.Want, v uint64) {
	// The register that gets v may be one of those that the store is made of.
	m.rest = m.storeBehind(i, w.Loc, v)
	this := only(read(len(m.deeds)))
	m.note(deed{
		event: api.Event{Kind: api.Read, Loc: w.Loc, Val: v, Mode: w.Mode},
		addr:  m.taints[i.Rn],
	})
	m.used++
	m.monitor = monitor{open: w.Ex, cell: w.Loc}
	if kindOf(i.Op) == compares {
		m.put(i.Rm, v, this)
	} else {
		m.put(i.Rd, v, this)
	}
	if !m.halfway() {
		m.place++
	}
}

// storeBehind is the store of an instruction that has loaded v; of no kind, if it has none.
func (m *Machine) storeBehind(i api.Ins, loc int, v uint64) deed {
	from, val := i.Rm, m.regs[i.Rm]
	switch kindOf(i.Op) {
	case swaps:
	case adds:
		val += v
	case compares:
		if v != val {
			return deed{}
		}
		from, val = i.Rd, m.regs[i.Rd]
	default:
		return deed{}
	}
	return deed{
		event:  api.Event{Kind: api.Write, Loc: loc, Val: val, Mode: writeMode(i.Op)},
		addr:   m.taints[i.Rn],
		data:   m.taints[from],
		paired: true,
	}
}

// halfway: is the store still to come of an instruction whose load was fed?
func (m *Machine) halfway() bool { return m.rest.event.Kind != 0 }

// finish does that store.
func (m *Machine) finish() {
	m.note(m.rest)
	m.rest = deed{}
	m.place++
}

// store does a store, if it is done.
func (m *Machine) store(i api.Ins, w api.Want, v uint64) {
	done := !w.Ex || v == 1
	if done {
		m.note(deed{
			event:  api.Event{Kind: api.Write, Loc: w.Loc, Val: w.Val, Mode: w.Mode},
			addr:   m.taints[i.Rn],
			data:   m.taints[i.Rd],
			paired: w.Ex,
		})
	}
	m.end(i, done)
}

// end goes on behind a store, done or not.
func (m *Machine) end(i api.Ins, done bool) {
	if kindOf(i.Op) == closes {
		m.put(i.Rm, truth(!done), taints{})
	}
	m.monitor = monitor{}
	m.place++
}
