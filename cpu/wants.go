package cpu

import "sextant/api"

// due tells what comes next wants: nothing (0), if it is the machine's own.
func (m *Machine) due() api.Want {
	if m.halfway() {
		e := m.rest.event
		return api.Want{What: api.WantStore, Loc: e.Loc, Val: e.Val, Mode: e.Mode, One: true}
	}
	if m.place < 0 || m.place >= len(m.list) {
		return api.Want{What: api.WantFault}
	}
	i := m.list[m.place]
	switch kindOf(i.Op) {
	case wantsNothing:
		return m.ifFuel()
	case prints:
		return api.Want{What: api.WantPrint, Val: m.regs[i.Imm]}
	case halts:
		return api.Want{What: api.WantHalt}
	case fences:
		return m.ifRoom(1, api.Want{What: api.WantFence, Mode: fenceMode(i.Op)})
	}
	loc, is := cellOf(m.regs[i.Rn] + uint64(i.Imm))
	if !is {
		return api.Want{What: api.WantFault}
	}
	return m.dueAt(loc, i)
}

// dueAt is due of a load or a store of a cell.
func (m *Machine) dueAt(loc int, i api.Ins) api.Want {
	load := api.Want{What: api.WantLoad, Loc: loc, Mode: readMode(i.Op)}
	store := api.Want{What: api.WantStore, Loc: loc, Val: m.regs[i.Rd], Mode: writeMode(i.Op)}
	switch kindOf(i.Op) {
	case loads:
		return m.ifRoom(1, load)
	case opens:
		load.Ex = true
		return m.ifRoom(1, load)
	case compares, swaps, adds:
		load.One = true
		return m.ifRoom(2, load)
	case closes:
		if m.monitor != (monitor{open: true, cell: loc}) {
			return m.ifFuel()
		}
		store.Ex = true
	}
	return m.ifRoom(1, store)
}

// ifFuel wants nothing, if the machine may do one more of its own.
func (m *Machine) ifFuel() api.Want {
	if m.own == api.MaxFuel {
		return api.Want{What: api.WantFuel}
	}
	return api.Want{}
}

// ifRoom wants that, if there may be so many more events.
func (m *Machine) ifRoom(events int, w api.Want) api.Want {
	if len(m.deeds)+events > api.MaxEvents {
		return api.Want{What: api.WantFuel}
	}
	return w
}

// cellOf tells the cell of an address, if it has one.
func cellOf(address uint64) (loc int, is bool) {
	n := (address - api.Base) / 8 // of an address below Base far too great: it wraps around
	if address%8 != 0 || n >= api.MaxCells {
		return 0, false
	}
	return int(n), true
}
