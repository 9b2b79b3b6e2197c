package src_test

import (
	"fmt"
	"testing"

	"sextant/api"
)

// spins are so many acts that go by themselves, of all three kinds, each to the next one; the thread's local 0 counts those that set.
func spins(n, from int) []api.Act {
	var out []api.Act
	for i := range n {
		switch i % 4 {
		case 0:
			out = append(out, set(0, two(api.OpAdd, local(0), num(1))))
		case 1:
			out = append(out, jump(from+i+1))
		case 2:
			out = append(out, zero(num(0), from+i+1))
		default:
			out = append(out, zero(num(9), 0))
		}
	}
	return out
}

// counted is a thread that takes just so many acts by itself, and then comes to the act: so many times round a loop of 5, which its local 1 counts, and some more.
func counted(n int, last api.Act) api.Prog {
	rounds := (n - 2) / 5
	acts := []api.Act{set(1, num(uint64(rounds))), zero(local(1), 6)}
	acts = append(acts, set(1, two(api.OpSub, local(1), num(1))), jump(4), zero(num(1), 0), jump(1))
	more := n - 2 - 5*rounds
	acts = append(acts, spins(more, len(acts))...)
	if last.Op == api.ActJump || last.Op == api.ActZero {
		last.To = len(acts)
	}
	return alone(append(acts, last)...)
}

// What may come behind MaxFuel acts.
func lasts() []api.Act {
	return []api.Act{
		show(num(8)), fence(api.SC), load(2, 3, api.Acq), {Op: api.ActStore, Base: 5, E: num(8), Mode: api.Rel}, {Op: api.ActXchg, Dst: 2, E: num(8), Mode: api.Acq},
		{Op: api.ActFadd, Dst: 2, E: num(8), Mode: api.Rlx}, {Op: api.ActCas, Dst: 2, E: num(8), F: num(8), Mode: api.SC},
	}
}

func wantedBy(a api.Act) api.Want {
	return map[int]api.Want{
		api.ActPrint: wantPrint(8), api.ActFence: wantFence(api.SC), api.ActLoad: wantLoad(3, api.Acq), api.ActStore: wantStore(5, 8, api.Rel),
		api.ActXchg: wantFirst(0, api.Acq), api.ActFadd: wantFirst(0, api.Rlx), api.ActCas: wantFirst(0, api.SC),
	}[a.Op]
}

// MaxFuel acts without anything wanted are well; one more is WantFuel; asked again it goes on from there.
func TestP13_2Fuel(t *testing.T) {
	for _, a := range lasts() {
		for _, n := range []int{10, api.MaxFuel - 1, api.MaxFuel} {
			told(t, fmt.Sprint(n, " acts and act ", a.Op), machine(t, counted(n, a), 0), wantedBy(a))
		}
		for _, n := range []int{api.MaxFuel + 1, api.MaxFuel + 2, 2*api.MaxFuel - 1, 2 * api.MaxFuel} {
			what := fmt.Sprint(n, " acts and act ", a.Op)
			m := machine(t, counted(n, a), 0)
			if w := m.Next(); w != wantFuel {
				t.Fatalf("P13.2: %s: %+v, want WantFuel", what, w)
			}
			notFed(t, what, m)
			told(t, what, m, wantedBy(a))
			fed(t, what, m, 5)
		}
		m := machine(t, counted(2*api.MaxFuel+1, a), 0)
		for range 2 {
			if w := m.Next(); w != wantFuel {
				t.Fatalf("P13.2: %+v, want WantFuel", w)
			}
			notFed(t, "behind WantFuel", m)
		}
		told(t, "asked for the third time", m, wantedBy(a))
	}
}

// The end is no act: behind MaxFuel acts it is told.
func TestP13_2FuelAndTheEnd(t *testing.T) {
	nothing := func(op int) api.Act {
		return map[int]api.Act{api.ActSet: set(3, num(1)), api.ActJump: jump(0), api.ActZero: zero(num(1), 0)}[op]
	}
	for _, op := range []int{api.ActSet, api.ActZero} {
		told(t, "MaxFuel acts", machine(t, counted(api.MaxFuel-1, nothing(op)), 0), wantHalt)
		m := machine(t, counted(api.MaxFuel, nothing(op)), 0)
		if w := m.Next(); w != wantFuel {
			t.Fatalf("P13.2: MaxFuel acts and one more: %+v, want WantFuel", w)
		}
		told(t, "asked again", m, wantHalt)
	}
	m := machine(t, counted(api.MaxFuel, nothing(api.ActJump)), 0) // to itself
	for range 5 {
		if w := m.Next(); w != wantFuel {
			t.Fatalf("P13.2: a jump to itself: %+v, want WantFuel", w)
		}
		notFed(t, "behind WantFuel", m)
	}
}

// What was taken ahead of something that was wanted, or ahead of the last asking, does not count.
func TestP13_2FuelSinceAsked(t *testing.T) {
	m := machine(t, program(t, "thread { let n = 20000; while (n) { n = n - 1; } fence(sc); n = 20000; while (n) { n = n - 1; } fence(acq); }"), 0) // twice more than half of MaxFuel
	told(t, "the first half", m, wantFence(api.SC))
	fed(t, "the first half", m, 0)
	told(t, "the second half", m, wantFence(api.Acq))
	m = machine(t, program(t, "shared x; thread { let i = 0; while (1) { i = i + 1; let r = load(x, rlx); } }"), 0)
	for range api.MaxFuel/2 + 5 {
		if w := m.Next(); w != wantLoad(0, api.Rlx) {
			t.Fatalf("P13.2: a loop with a load: %+v", w)
		}
		fed(t, "a loop with a load", m, 0)
	}
}

// At WantFuel just MaxFuel acts have been done, no more and no fewer.
func TestP13_2FuelIsJustSo(t *testing.T) {
	m := machine(t, alone(set(0, two(api.OpAdd, local(0), num(1))), jump(0)), 0)
	for i := range uint64(4) {
		if w := m.Next(); w != wantFuel {
			t.Fatalf("P13.2: %+v, want WantFuel", w)
		}
		holdLocals(t, "at WantFuel", m, (i+1)*api.MaxFuel/2, 0, 0, 0)
		c := m.Clone()
		notFed(t, "a clone at WantFuel", c)
		if w := c.Next(); w != wantFuel {
			t.Fatalf("P13.1: a clone: %+v, want WantFuel", w)
		}
		holdLocals(t, "a clone at WantFuel", c, (i+2)*api.MaxFuel/2, 0, 0, 0)
		holdLocals(t, "the one that was cloned", m, (i+1)*api.MaxFuel/2, 0, 0, 0)
	}
}
