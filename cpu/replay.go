package cpu

import "sextant/api"

// Replay runs words by the values of reads and the outcomes of exclusive stores.
func Replay(words []uint32, reads []uint64, wins []bool, fuel int) (api.Run, api.Errno) {
	m, e := New(words)
	if e != api.OK {
		return api.Run{}, e
	}
	if fuel < 0 || fuel > api.MaxFuel {
		return api.Run{}, api.EARG
	}
	r := replay{machine: m, reads: reads, wins: wins, fuel: fuel}
	for r.goesOn() {
	}
	run := m.done()
	run.State, run.Loc = r.state, r.loc
	return run, api.OK
}

// replay is a run with what it has still to be fed.
type replay struct {
	machine    *Machine
	reads      []uint64
	wins       []bool
	fuel       int
	state, loc int // once it has ended
}

// goesOn does one instruction more, or ends the run.
func (r *replay) goesOn() bool {
	w := r.machine.due()
	begins := !r.machine.halfway() // a store behind its own instruction's load takes no fuel
	switch {
	case w.What == api.WantFault, w.What == api.WantFuel:
		r.state, r.loc = stateOf(w)
		return false
	case begins && r.fuel == 0:
		r.state = api.Spent
		return false
	case w.What == api.WantHalt, r.lacks(w):
		r.state, r.loc = stateOf(w)
		return false
	}
	if begins {
		r.fuel--
	}
	if w.What == 0 {
		r.machine.step()
	} else {
		r.machine.give(w, r.fed(w))
	}
	return true
}

// lacks tells whether that is used up of which this wants one.
func (r *replay) lacks(w api.Want) bool {
	return w.What == api.WantLoad && len(r.reads) == 0 || w.What == api.WantStore && w.Ex && len(r.wins) == 0
}

// fed is what is given to that which is wanted.
func (r *replay) fed(w api.Want) (v uint64) {
	switch {
	case w.What == api.WantLoad:
		v, r.reads = r.reads[0], r.reads[1:]
	case w.What == api.WantStore && w.Ex:
		v, r.wins = truth(r.wins[0]), r.wins[1:]
	}
	return v
}
