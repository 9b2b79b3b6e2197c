package src

import "sextant/api"

// replay is a run against values, as far as it has come: its State is 0, while it goes on.
type replay struct {
	machine *Machine
	thread  int
	reads   []uint64
	fuel    int
	run     api.Run
}

// goOn begins an act, or answers what one wants, or ends the run.
func (r *replay) goOn() {
	m := r.machine
	switch {
	case m.moment > 0:
		r.answer()
	case m.halted():
		r.run.State = api.Halted
	case r.fuel == 0:
		r.run.State = api.Spent
	default:
		r.fuel--
		m.work(0)
	}
}

// answer writes down what is wanted, and feeds it.
func (r *replay) answer() {
	w := r.machine.want
	var fed uint64
	switch w.What {
	case api.WantLoad:
		if r.run.Used == len(r.reads) {
			r.run.State, r.run.Loc = api.Hungry, w.Loc
			return
		}
		fed = r.reads[r.run.Used]
		r.run.Used++
		r.note(api.Event{Kind: api.Read, Loc: w.Loc, Val: fed, Mode: w.Mode})
	case api.WantStore:
		r.note(api.Event{Kind: api.Write, Loc: w.Loc, Val: w.Val, Mode: w.Mode})
		if w.Ex {
			last := len(r.run.Events) - 1
			r.run.Rmw = append(r.run.Rmw, api.Pair{A: last - 1, B: last})
		}
	case api.WantFence:
		r.note(api.Event{Kind: api.Fence, Loc: -1, Mode: w.Mode})
	case api.WantPrint:
		r.run.Outs = append(r.run.Outs, w.Val)
	}
	r.machine.work(fed)
}

func (r *replay) note(e api.Event) {
	e.Thread = r.thread
	r.run.Events = append(r.run.Events, e)
}
