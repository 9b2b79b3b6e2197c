package cpu_test

import (
	"fmt"
	"slices"
	"testing"

	"sextant/api"
	"sextant/code"
	"sextant/cpu"
)

// A beginning of the values and outcomes has the beginning of the events, of the outputs and of the pairs; more of them than were used change nothing.
func TestP16_6Beginnings(t *testing.T) {
	shorter, undecided := 0, 0
	eachMade(t, 16400, 1500, func(m maker, what string, w []uint32) {
		reads, wins, fuel := m.values(m.roll(14)), m.wins(m.roll(5)), 30+m.roll(200)
		r := replay(t, w, reads, wins, fuel)
		for range 4 {
			n, k := m.roll(len(reads)+1), m.roll(len(wins)+1)
			begun := replay(t, w, reads[:n], wins[:k], fuel)
			what := fmt.Sprintf("%s, reads %v (%d), wins %v (%d), fuel %d\n%s", what, reads, n, wins, k, fuel, shown(w))
			isBeginning(t, what, r, begun)
			if len(begun.Events) < len(r.Events) {
				shorter++
			}
			if begun.State == api.Undecided && r.State != api.Undecided {
				undecided++
			}
		}
		more, moreWins := append(slices.Clone(reads), m.values(3)...), append(slices.Clone(wins), m.wins(3)...)
		on := replay(t, w, more, moreWins, fuel)
		isBeginning(t, what, on, r)
		if r.State != api.Hungry && r.State != api.Undecided && !sameRun(on, r) {
			t.Fatalf("P16.6: %s: %+v; with more: %+v", what, r, on)
		}
		isBeginning(t, what, replay(t, w, reads, wins, fuel+m.roll(50)), r)
	})
	if shorter < 300 || undecided < 50 {
		t.Errorf("not all is tried: %d are shorter, %d undecided", shorter, undecided)
	}
}

// isBeginning holds that a run begins as another one did. (The pairs of the shorter one: those of its events.)
func isBeginning(t *testing.T, what string, r, begun api.Run) {
	t.Helper()
	n := len(begun.Events)
	if n > len(r.Events) || !slices.Equal(begun.Events, r.Events[:n]) || len(begun.Outs) > len(r.Outs) || !slices.Equal(begun.Outs, r.Outs[:len(begun.Outs)]) || begun.Used > r.Used {
		t.Fatalf("P16.6: %s: %+v does not begin %+v", what, begun, r)
	}
	for i, l := range [][]api.Pair{r.Rmw, r.Addr, r.Data, r.Ctrl} {
		among := slices.DeleteFunc(slices.Clone(l), func(p api.Pair) bool { return p.B >= n })
		if got := [][]api.Pair{begun.Rmw, begun.Addr, begun.Data, begun.Ctrl}[i]; !slices.Equal(got, among) {
			t.Fatalf("P16.6: %s: list %d of pairs: %v, want %v", what, i, got, among)
		}
	}
}

// What was fed is all that a run hangs on: not how often a machine was asked, cloned, looked at or fed in vain.
func TestP16_6RunHangsOnWhatWasFed(t *testing.T) {
	long := 0
	eachMade(t, 16500, 1000, func(m maker, what string, w []uint32) {
		plain, looked := made(t, w), made(t, w)
		for n := range 30 {
			for range m.roll(4) {
				switch m.roll(5) {
				case 0:
					looked.Next()
				case 1:
					looked = looked.Clone()
				case 2:
					looked.Run()
				case 3:
					looked.Clone().Feed(m.value())
				case 4:
					if w := looked.Next(); w.What == api.WantStore && w.Ex {
						notFed(t, what, looked, 2, top)
					}
				}
			}
			v := m.value()
			e := plain.Feed(v)
			if got := looked.Feed(v); got != e {
				t.Fatalf("P16.6: %s: fed %d for the %d. time: %v, want %v", what, v, n+1, got, e)
			}
			holdRun(t, "P16.6: "+what, looked.Run(), plain.Run())
			if registers(looked) != registers(plain) {
				t.Fatalf("P16.6: %s: registers %v, want %v", what, registers(looked), registers(plain))
			}
			if e == api.OK {
				long++
			}
		}
	})
	if long < 3000 {
		t.Errorf("not all is tried: %d were fed", long)
	}
}

// Replay is the machine, fed one by one.
func TestP16_5OneByOne(t *testing.T) {
	ended := map[int]int{}
	eachMade(t, 16600, 1500, func(m maker, what string, w []uint32) {
		reads, wins := m.values(m.roll(14)), m.wins(m.roll(5))
		whole := replay(t, w, reads, wins, api.MaxFuel)
		x := made(t, w)
		used, decided := 0, 0
		for {
			v, want := uint64(0), x.Next()
			if want.What == api.WantLoad {
				if used == len(reads) {
					break
				}
				v, used = reads[used], used+1
			}
			if want.What == api.WantStore && want.Ex {
				if decided == len(wins) {
					break
				}
				if wins[decided] {
					v = 1
				}
				decided++
			}
			if x.Feed(v) != api.OK {
				break
			}
			if len(x.Run().Outs) > 200 { // prints for ever
				return
			}
		}
		holdRun(t, "P16.5: one by one: "+what+"\n"+shown(w), x.Run(), whole)
		ended[whole.State]++
	})
	for _, s := range []int{api.Halted, api.Hungry, api.Undecided, api.Faulty} {
		if ended[s] < 20 {
			t.Errorf("not all is tried: %v", ended)
		}
	}
}

// played is the run of words whose reads get what their numbers among the events tell; it ends behind so many events.
func played(t *testing.T, w []uint32, value func(event int) uint64, most int) api.Run {
	t.Helper()
	m := made(t, w)
	for event, wants := 0, 0; event < most && wants < 400; wants++ {
		v, want := uint64(0), m.Next()
		if want.What == api.WantLoad {
			v = value(event)
		}
		if want.What == api.WantLoad || want.What == api.WantStore || want.What == api.WantFence {
			event++
		}
		if m.Feed(v) != api.OK {
			break
		}
	}
	return m.Run()
}

// Of words without exclusive stores and Cas: an event is the same, but for a read's value, whenever those reads with which it is paired had the same values, if the run comes so far; so is each register, which stores tell that stand behind.
func TestP16_6WhatAnEventHangsOn(t *testing.T) {
	const most = 60
	same, others, short := 0, 0, 0
	eachMade(t, 16700, 1500, func(m maker, what string, w []uint32) {
		w = withStores(t, w)
		values := m.values(most)
		r := played(t, w, func(n int) uint64 { return values[n] }, most)
		for b, e := range r.Events {
			by := map[int]bool{}
			for _, l := range [][]api.Pair{r.Rmw, r.Addr, r.Data, r.Ctrl} {
				for _, p := range l {
					if p.B == b {
						by[p.A] = true
					}
				}
			}
			other := m.values(most)
			for n := range by {
				other[n] = values[n]
			}
			got := played(t, w, func(n int) uint64 { return other[n] }, b+1)
			if len(got.Events) <= b {
				short++
				continue
			}
			if e.Kind == api.Read {
				e.Val = other[b]
			}
			if got.Events[b] != e {
				t.Fatalf("P16.6: %s, event %d hangs on %v: with %v it is %+v, with %v %+v\n%s", what, b, by, values, e, other, got.Events[b], shown(w))
			}
			same++
			if !slices.Equal(got.Events, r.Events[:b+1]) {
				others++
			}
		}
	}, code.Stxr, code.Stlxr, code.Cas, code.Casa, code.Casl, code.Casal)
	if same < 10000 || others < 3000 || short > same {
		t.Errorf("not all is tried: %d events are the same, %d behind others, %d runs come not so far", same, others, short)
	}
}

// withStores has stores of many registers ahead of the last halt.
func withStores(t *testing.T, w []uint32) []uint32 {
	t.Helper()
	list, _, _ := code.List(w)
	list = slices.DeleteFunc(list, func(i api.Ins) bool { return i.Op == code.Hlt })
	list = append(list, api.Ins{Op: code.Movz, Rd: 12, Imm: 1, Cond: 1})
	for _, n := range []int{2, 3, 4, 5, 6, 7, 8, 11, 30} {
		list = append(list, api.Ins{Op: code.Str, Rd: n, Rn: 12})
	}
	w, at, e := code.Words(append(list, api.Ins{Op: code.Hlt}))
	if e != api.OK {
		t.Fatalf("%+v has no word", list[at])
	}
	return w
}

// A clone and the machine that it was made from have nothing in common afterwards, wherever it was made, whoever goes on first.
func TestP16_1ClonesAreAlone(t *testing.T) {
	clones := 0
	eachMade(t, 16800, 800, func(m maker, what string, w []uint32) {
		ahead := m.values(m.roll(10))
		fresh := func() *cpu.Machine {
			x := made(t, w)
			for _, v := range ahead {
				x.Feed(v)
			}
			return x
		}
		first := fresh()
		second, asFirst, asSecond := first.Clone(), fresh(), fresh()
		for n := range 24 { // now the one, now the other
			x, as := first, asFirst
			if (n+n/5)%2 == 0 {
				x, as = second, asSecond
			}
			v := m.value()
			if got, want := x.Next(), as.Next(); got != want {
				t.Fatalf("P16.1: %s: a clone wants %+v, not %+v", what, got, want)
			}
			x.Feed(v)
			as.Feed(v)
			holdRun(t, "P16.1: "+what, x.Run(), as.Run())
			if registers(x) != registers(as) {
				t.Fatalf("P16.1: %s: a clone's registers %v, want %v", what, registers(x), registers(as))
			}
		}
		if !sameRun(first.Run(), second.Run()) {
			clones++
		}
	})
	if clones < 300 {
		t.Errorf("not all is tried: %d clones went another way", clones)
	}
}
