package src_test

import (
	"fmt"
	"math"
	"slices"
	"testing"

	"sextant/api"
	"sextant/src"
)

func read(loc int, v uint64, mode int) api.Event {
	return api.Event{Kind: api.Read, Loc: loc, Val: v, Mode: mode}
}

func write(loc int, v uint64, mode int) api.Event {
	return api.Event{Kind: api.Write, Loc: loc, Val: v, Mode: mode}
}

func barrier(mode int) api.Event { return api.Event{Kind: api.Fence, Loc: -1, Mode: mode} }

// Every row of the chapter's examples.
func TestP13_4Examples(t *testing.T) {
	p := program(t, loop)
	x := read(0, 1, api.Acq)
	holdRun(t, "none", replay(t, p, 0, nil, 9), api.Run{State: api.Hungry})
	holdRun(t, "none, an empty list", replay(t, p, 0, []uint64{}, 9), api.Run{State: api.Hungry})
	holdRun(t, "1", replay(t, p, 0, []uint64{1}, 9), api.Run{State: api.Halted, Events: []api.Event{x, write(1, 0, api.Rel)}, Used: 1})
	holdRun(t, "1, fuel 2", replay(t, p, 0, []uint64{1}, 2), api.Run{State: api.Spent, Events: []api.Event{x}, Used: 1})
	holdRun(t, "1, fuel 0", replay(t, p, 0, []uint64{1}, 0), api.Run{State: api.Spent})
	holdRun(t, "5 7", replay(t, p, 0, []uint64{5, 7}, 100), api.Run{State: api.Halted, Used: 1, Events: []api.Event{
		read(0, 5, api.Acq), write(1, 4, api.Rel), write(4, 3, api.Rel), write(3, 2, api.Rel), write(2, 1, api.Rel), write(1, 0, api.Rel),
	}})
	for _, c := range []struct{ thread, fuel int }{{1, 9}, {1, 0}, {0, -1}, {1, -1}} {
		if r, e := src.Replay(p, c.thread, []uint64{1}, c.fuel); e != api.EARG || !isNothing(r) {
			t.Errorf("P13.4, R2: thread %d, fuel %d: %+v, %v; want nothing, EARG", c.thread, c.fuel, r, e)
		}
	}
}

func TestP13_4WrongFuel(t *testing.T) {
	for _, text := range []string{loop, everything, "thread { }"} {
		p := program(t, text)
		for _, fuel := range []int{math.MinInt, -100000, -2, -1, api.MaxFuel + 1, api.MaxFuel + 2, 1 << 32, 1<<32 + 5, math.MaxInt} {
			if r, e := src.Replay(p, 0, []uint64{1, 2, 3}, fuel); e != api.EARG || !isNothing(r) {
				t.Errorf("P13.4, R2: fuel %d: %+v, %v; want nothing, EARG", fuel, r, e)
			}
		}
		replay(t, p, 0, []uint64{1, 2, 3}, 0)
		replay(t, p, 0, []uint64{1, 2, 3}, api.MaxFuel)
	}
}

// Each kind of act in every mode, by hand, in a thread of each number.
func TestP13_4EachAct(t *testing.T) {
	n := num(4)
	for _, c := range rmwModes {
		for _, x := range []struct {
			what string
			act  api.Act
			want []api.Event
		}{
			{"xchg", api.Act{Op: api.ActXchg, Base: 2, E: n}, []api.Event{read(2, 9, c.read), write(2, 4, c.write)}},
			{"fadd", api.Act{Op: api.ActFadd, Base: 2, E: n}, []api.Event{read(2, 9, c.read), write(2, 13, c.write)}},
			{"fadd that wraps around", api.Act{Op: api.ActFadd, Base: 2, E: num(top - 2)}, []api.Event{read(2, 9, c.read), write(2, 6, c.write)}},
			{"cas", api.Act{Op: api.ActCas, Base: 2, E: num(9), F: n}, []api.Event{read(2, 9, c.read), write(2, 4, c.write)}},
			{"cas that finds another", api.Act{Op: api.ActCas, Base: 2, E: num(8), F: num(9)}, []api.Event{read(2, 9, c.read)}},
			{"load", api.Act{Op: api.ActLoad, Base: 2, Mode: c.read}, []api.Event{read(2, 9, c.read)}},
			{"store", api.Act{Op: api.ActStore, Base: 7, E: num(top), Mode: c.write}, []api.Event{write(7, top, c.write)}},
			{"fence", fence(max(c.mode, api.Acq)), []api.Event{barrier(max(c.mode, api.Acq))}},
		} {
			if x.act.Mode == 0 {
				x.act.Mode = c.mode
			}
			holdAct(t, fmt.Sprintf("%s, mode %d", x.what, c.mode), x.act, x.want)
		}
	}
	holdAct(t, "set", set(0, n), nil)
	holdAct(t, "jump", jump(3), nil)
	holdAct(t, "zero", zero(n, 0), nil)
	holdAct(t, "print", show(num(55)), nil, 55)
}

// holdAct holds the run of an act between two that print, in a thread of four. It reads 9, if anything.
func holdAct(t *testing.T, what string, a api.Act, events []api.Event, outs ...uint64) {
	t.Helper()
	for thread := range 4 {
		p := alone(show(num(1)), fence(api.SC), a, show(num(2)))
		only := p.Threads[0]
		p.Threads = make([]api.Thread, 4)
		p.Threads[thread] = only
		want := api.Run{State: api.Halted, Events: append([]api.Event{barrier(api.SC)}, events...), Outs: append([]uint64{1}, append(outs, 2)...)}
		for i := range want.Events {
			want.Events[i].Thread = thread
			if want.Events[i].Kind == api.Read {
				want.Used = 1
			}
		}
		if len(events) == 2 {
			want.Rmw = []api.Pair{{A: 1, B: 2}}
		}
		for _, fuel := range []int{4, 5, api.MaxFuel} {
			holdRun(t, what, replay(t, p, thread, []uint64{9, 10}, fuel), want)
		}
		short := want
		short.State, short.Outs = api.Spent, want.Outs[:len(want.Outs)-1]
		holdRun(t, what+", no fuel for the last", replay(t, p, thread, []uint64{9, 10}, 3), short)
		short = api.Run{State: api.Spent, Outs: []uint64{1}, Events: want.Events[:1]}
		holdRun(t, what+", no fuel for it", replay(t, p, thread, []uint64{9, 10}, 2), short)
		holdRun(t, what+", no fuel and no reads for it", replay(t, p, thread, nil, 2), short)
		if want.Used > 0 {
			short.State, short.Loc = api.Hungry, 2
			holdRun(t, what+", no reads", replay(t, p, thread, nil, 3), short)
			holdRun(t, what+", no reads", replay(t, p, thread, nil, api.MaxFuel), short)
		}
	}
}

// A thread without an act, and one that is done: fuel 0 is enough.
func TestP13_4NothingLeft(t *testing.T) {
	for _, p := range []api.Prog{program(t, "thread { }"), {Cells: 3, Threads: []api.Thread{{Locals: 24}}}, {Threads: []api.Thread{{Acts: []api.Act{}}}}} {
		for _, fuel := range []int{0, 1, api.MaxFuel} {
			for _, reads := range [][]uint64{nil, {}, {5, 6}} {
				holdRun(t, "nothing to do", replay(t, p, 0, reads, fuel), api.Run{State: api.Halted})
			}
		}
	}
	for n := range 20 {
		p := alone(slices.Repeat([]api.Act{show(num(3))}, n)...)
		for fuel := range 25 {
			want := api.Run{State: api.Halted, Outs: slices.Repeat([]uint64{3}, min(n, fuel))}
			if fuel < n {
				want.State = api.Spent
			}
			holdRun(t, fmt.Sprintf("%d acts, fuel %d", n, fuel), replay(t, p, 0, nil, fuel), want)
		}
	}
}

// So much is done with MaxFuel, whatever the acts.
func TestP13_4MaxFuel(t *testing.T) {
	for _, n := range []int{api.MaxFuel - 1, api.MaxFuel, api.MaxFuel + 1} {
		p := counted(n-1, set(3, num(1))) // n acts by themselves
		want := api.Run{State: api.Halted}
		if n > api.MaxFuel {
			want.State = api.Spent
		}
		holdRun(t, fmt.Sprint(n, " acts"), replay(t, p, 0, nil, api.MaxFuel), want)
		holdRun(t, fmt.Sprint(n, " acts, one fewer"), replay(t, p, 0, nil, min(n, api.MaxFuel)-1), api.Run{State: api.Spent})
	}
	holdRun(t, "a jump to itself", replay(t, alone(jump(0)), 0, nil, api.MaxFuel), api.Run{State: api.Spent})
	pair := api.Act{Op: api.ActFadd, E: num(1), Mode: api.SC}
	reads := make([]uint64, api.MaxFuel)
	r := replay(t, alone(pair, jump(0)), 0, reads, api.MaxFuel)
	if r.State != api.Spent || r.Used != api.MaxFuel/2 || len(r.Events) != api.MaxFuel || len(r.Rmw) != api.MaxFuel/2 || r.Rmw[49999] != (api.Pair{A: 99998, B: 99999}) {
		t.Errorf("P13.4: a loop with a pair: state %d, used %d, %d events, %d pairs", r.State, r.Used, len(r.Events), len(r.Rmw))
	}
	r = replay(t, alone(show(num(6)), jump(0)), 0, reads, api.MaxFuel-1)
	if r.State != api.Spent || r.Used != 0 || len(r.Outs) != api.MaxFuel/2 {
		t.Errorf("P13.4: a loop that prints: state %d, used %d, %d outputs", r.State, r.Used, len(r.Outs))
	}
}

// Reads that are used up, ahead of a load, ahead of a pair, in the middle of one, behind the last one.
func TestP13_4Hungry(t *testing.T) {
	p := program(t, "shared x, a[4]; thread { print(7); let r = fadd(a[6], 2, sc); let s = load(a[r], rlx); r = xchg(x, s, acq); s = cas(a[s], r, 8, rel); print(s); s = cas(a[3], 0, 1, rel); }")
	events := []api.Event{
		read(3, 1, api.SC), write(3, 3, api.SC), read(2, 3, api.Rlx), read(0, 9, api.Acq), write(0, 3, api.Rlx), read(4, 9, api.Rlx), write(4, 8, api.Rel), read(4, 5, api.Rlx),
	}
	pairs := []api.Pair{{A: 0, B: 1}, {A: 3, B: 4}, {A: 5, B: 6}}
	all := []uint64{1, 3, 9, 9, 5}
	for n, c := range []struct{ events, pairs, outs, loc int }{{0, 0, 1, 3}, {2, 1, 1, 2}, {3, 1, 1, 0}, {5, 2, 1, 4}, {7, 3, 2, 4}, {8, 3, 2, 0}} {
		want := api.Run{State: api.Hungry, Events: events[:c.events], Rmw: pairs[:c.pairs], Outs: []uint64{7, 9}[:c.outs], Loc: c.loc, Used: n}
		if n == len(all) {
			want.State = api.Halted
		}
		holdRun(t, fmt.Sprint(n, " reads"), replay(t, p, 0, all[:n], 100), want)
	}
	holdRun(t, "fuel for the act that is hungry", replay(t, p, 0, nil, 2), api.Run{State: api.Hungry, Outs: []uint64{7}, Loc: 3})
	holdRun(t, "none for it", replay(t, p, 0, nil, 1), api.Run{State: api.Spent, Outs: []uint64{7}})
	holdRun(t, "a pair takes one", replay(t, p, 0, all[:1], 2), api.Run{State: api.Spent, Outs: []uint64{7}, Events: events[:2], Rmw: pairs[:1], Used: 1})
}
