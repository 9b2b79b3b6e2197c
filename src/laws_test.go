package src_test

import (
	"fmt"
	"math"
	"reflect"
	"slices"
	"testing"
	"unsafe"

	"sextant/api"
	"sextant/src"
)

// byHand is Replay by Next and Feed, of at most so many wants: acts that go by themselves are not seen, so that there is no fuel.
func byHand(t *testing.T, m *src.Machine, thread int, reads []uint64, most int) (r api.Run) {
	t.Helper()
	for range most {
		w := m.Next()
		e := api.Event{Thread: thread, Loc: w.Loc, Val: w.Val, Mode: w.Mode}
		switch w.What {
		case api.WantHalt:
			r.State = api.Halted
			return r
		case api.WantFuel:
			r.State = api.Spent
			return r
		case api.WantPrint:
			r.Outs = append(r.Outs, w.Val)
		case api.WantFence:
			e.Kind, e.Loc = api.Fence, -1
		case api.WantStore:
			e.Kind = api.Write
			if w.Ex {
				r.Rmw = append(r.Rmw, api.Pair{A: len(r.Events) - 1, B: len(r.Events)})
			}
		case api.WantLoad:
			if r.Used == len(reads) {
				r.State, r.Loc = api.Hungry, w.Loc
				return r
			}
			e.Kind, e.Val = api.Read, reads[r.Used]
			r.Used++
		}
		fed(t, "by hand", m, e.Val)
		if w.What != api.WantPrint {
			r.Events = append(r.Events, e)
		}
	}
	return r
}

// Next and Feed tell Replay's run, one by one.
func TestP13_5OneByOne(t *testing.T) {
	states := map[int]int{}
	eachMade(t, 21000, 1500, func(m maker, p api.Prog, thread int) {
		reads := m.reads(m.roll(12))
		whole := replay(t, p, thread, reads, 600)
		want := whole
		if want.State == api.Spent { // as far as that run came: by hand it goes on
			want.State = 0
		}
		got := byHand(t, machine(t, p, thread), thread, reads, len(want.Events)+len(want.Outs))
		if want.State != 0 {
			got = byHand(t, machine(t, p, thread), thread, reads, 1000)
		}
		if !sameRun(got, want) {
			t.Fatalf("P13.5: %s, thread %d, reads %v: one by one: %+v; want %+v", m.name, thread, reads, got, want)
		}
		states[whole.State]++
	})
	for _, s := range []int{api.Halted, api.Hungry, api.Spent} {
		if states[s] < 100 {
			t.Errorf("not all is tried: %d runs with the state %d", states[s], s)
		}
	}
}

// More reads behind those that were used change nothing; a Hungry run goes on with one value more as it was; so does a Spent one with more fuel.
func TestP13_5RunsGoOn(t *testing.T) {
	hungry, spent, same := 0, 0, 0
	eachMade(t, 25000, 1500, func(m maker, p api.Prog, thread int) {
		reads, fuel := m.reads(m.roll(6)), m.roll(60)
		what := fmt.Sprintf("%s, thread %d, reads %v, fuel %d", m.name, thread, reads, fuel)
		r := replay(t, p, thread, reads, fuel)
		if fewer := replay(t, p, thread, reads[:r.Used], fuel); !sameRun(fewer, r) {
			t.Fatalf("P13.5: %s: %+v; with what it used alone: %+v", what, r, fewer)
		}
		more := append(slices.Clone(reads), m.reads(1+m.roll(4))...)
		on := replay(t, p, thread, more, fuel)
		switch r.State {
		case api.Hungry:
			hungry++
			goesOn(t, what, r, on)
			next := api.Event{Thread: thread, Kind: api.Read, Loc: r.Loc, Val: more[len(reads)], Mode: on.Events[len(r.Events)].Mode}
			if r.Used != len(reads) || on.Used <= r.Used || on.Events[len(r.Events)] != next {
				t.Fatalf("P13.5: %s: %+v goes on as %+v", what, r, on)
			}
		case api.Spent:
			spent++
			goesOn(t, what, r, replay(t, p, thread, reads, fuel+1+m.roll(9)))
			fallthrough
		default:
			same++
			if !sameRun(r, on) {
				t.Fatalf("P13.5: %s: %+v; with reads behind: %+v", what, r, on)
			}
		}
	})
	if hungry < 300 || spent < 300 || same < 500 {
		t.Errorf("not all is tried: %d are hungry, %d spent, %d the same", hungry, spent, same)
	}
}

func goesOn(t *testing.T, what string, r, on api.Run) {
	t.Helper()
	begins := len(on.Events) >= len(r.Events) && len(on.Rmw) >= len(r.Rmw) && len(on.Outs) >= len(r.Outs) && on.Used >= r.Used
	if !begins || !slices.Equal(on.Events[:len(r.Events)], r.Events) || !slices.Equal(on.Rmw[:len(r.Rmw)], r.Rmw) || !slices.Equal(on.Outs[:len(r.Outs)], r.Outs) {
		t.Fatalf("P13.5: %s: %+v does not go on as %+v", what, r, on)
	}
}

// trace is what a machine tells, fed those values.
func trace(m *src.Machine, values []uint64) []stand {
	var out []stand
	for _, v := range values {
		w := m.Next()
		out = append(out, stand{w, m.Locals(), v})
		if m.Feed(v) != api.OK {
			break
		}
	}
	return out
}

func sameTrace(a, b []stand) bool {
	return slices.EqualFunc(a, b, func(x, y stand) bool {
		return x.want == y.want && x.fed == y.fed && slices.Equal(x.locals, y.locals)
	})
}

// A clone and the machine that it was made from have nothing in common afterwards, wherever it was made, whoever goes on first.
func TestP13_1ClonesAreAlone(t *testing.T) {
	clones := 0
	eachMade(t, 29000, 600, func(m maker, p api.Prog, thread int) {
		ahead, one, other := m.reads(m.roll(10)), m.reads(12), m.reads(12)
		fresh := func() *src.Machine {
			x := machine(t, p, thread)
			if s := trace(x, ahead); len(s) > 0 && s[len(s)-1].want == wantFuel {
				return nil
			}
			return x
		}
		a := fresh()
		if a == nil {
			return
		}
		if m.roll(2) == 0 && a.Next() == wantFuel {
			return
		}
		b := a.Clone()
		want, wantOther := trace(fresh(), one), trace(fresh(), other)
		first, second := a, b
		if m.roll(2) == 0 {
			first, second = b, a
		}
		for i := range 12 { // now the one, now the other
			if i < len(want) {
				step(t, m.name, first, want[i])
			}
			if i < len(wantOther) {
				step(t, m.name, second, wantOther[i])
			}
		}
		clones++
	})
	if clones < 500 {
		t.Errorf("not all is tried: %d clones", clones)
	}
}

// step asks a machine and feeds it, as it was asked and fed ahead.
func step(t *testing.T, what string, m *src.Machine, s stand) {
	t.Helper()
	if s.want == wantFuel {
		return
	}
	told(t, what, m, s.want)
	if got := m.Locals(); !slices.Equal(got, s.locals) {
		t.Fatalf("P13.1: %s: a clone's locals %v, want %v", what, got, s.locals)
	}
	if s.want != wantHalt {
		fed(t, what, m, s.fed)
	}
}

// span is the memory of a list, spare room too.
type span struct{ low, high uintptr }

func spanOf[T any](l []T) span {
	low := uintptr(unsafe.Pointer(unsafe.SliceData(l)))
	return span{low, low + uintptr(cap(l))*reflect.TypeFor[T]().Size()}
}

func runSpans(r api.Run) []span {
	return []span{spanOf(r.Events), spanOf(r.Rmw), spanOf(r.Addr), spanOf(r.Data), spanOf(r.Ctrl), spanOf(r.Outs)}
}

// What is answered shares no memory, neither with what was handed in nor with another answer.
func TestR4NoTwoListsShareMemory(t *testing.T) {
	eachMade(t, 33000, 200, func(m maker, p api.Prog, thread int) {
		reads := m.reads(10)
		a, b := replay(t, p, thread, reads, 50), replay(t, p, thread, reads, 50)
		if !sameRun(a, b) {
			t.Fatalf("R5: %s, thread %d: %+v, then %+v", m.name, thread, a, b)
		}
		x := machine(t, p, thread)
		trace(x, reads)
		y := x.Clone()
		all := append(runSpans(a), runSpans(b)...)
		all = append(all, spanOf(reads), spanOf(x.Locals()), spanOf(x.Locals()), spanOf(y.Locals()))
		for i, s := range all {
			for _, o := range all[:i] {
				if s.low < s.high && o.low < o.high && s.low < o.high && o.low < s.high {
					t.Fatalf("R4: %s, thread %d: two lists share memory", m.name, thread)
				}
			}
		}
	})
}

// What a machine told of its locals may be written to.
func TestR4LocalsAreACopy(t *testing.T) {
	m := machine(t, alone(set(1, num(5)), fence(api.SC), show(two(api.OpAdd, local(1), local(2)))), 0)
	told(t, "a fence", m, wantFence(api.SC))
	c := m.Clone()
	for _, x := range []*src.Machine{m, c} {
		l := x.Locals()
		l = l[:cap(l)]
		for i := range l {
			l[i] = 99
		}
	}
	holdLocals(t, "written over", m, 0, 5, 0, 0)
	holdLocals(t, "written over", c, 0, 5, 0, 0)
	fed(t, "a fence", m, 0)
	told(t, "written over", m, wantPrint(5))
}

// Programs and reads are not changed, nor kept: a machine goes on as it would have, whatever becomes of its program. The room behind a list is not looked at.
func TestR4WhatIsHandedIn(t *testing.T) {
	eachMade(t, 37000, 300, func(m maker, p api.Prog, thread int) {
		values := m.reads(12)
		want, wantRun := trace(machine(t, p, thread), values), replay(t, p, thread, values, 40)
		q := roomy(p)
		before := widened(q)
		reads := append(slices.Clone(values), 7, 8, 9)
		was := slices.Clone(reads)
		run := replay(t, q, thread, reads[:12], 40)
		x := machine(t, q, thread)
		first := trace(x.Clone(), values)
		if !unchanged(q, before) || !slices.Equal(reads, was) {
			t.Fatalf("R4: %s, thread %d: what is handed in is changed", m.name, thread)
		}
		spoil(q)
		clear(reads)
		if !sameRun(run, wantRun) {
			t.Fatalf("R4: %s, thread %d: a run hangs on what was handed in: %+v, want %+v", m.name, thread, run, wantRun)
		}
		if second := trace(x, values); !sameTrace(first, want) || !sameTrace(second, want) {
			t.Fatalf("R4: %s, thread %d: a machine has kept its program", m.name, thread)
		}
	})
}

// Programs that are refused stay as they are, too.
func TestR4WhatIsRefused(t *testing.T) {
	p := program(t, everything)
	p.Threads[3].Acts[0].Mode = 77
	q := roomy(p)
	before := widened(q)
	notMade(t, "a wrong mode", q, 0)
	p = program(t, everything)
	r := roomy(p)
	beforeToo := widened(r)
	notMade(t, "no such thread", r, 4)
	if !unchanged(q, before) || !unchanged(r, beforeToo) {
		t.Error("R4: what is refused is changed")
	}
}

// nil and an empty list are one.
func TestR4EmptyLists(t *testing.T) {
	p := program(t, everything)
	q := copyProg(p)
	for _, th := range q.Threads {
		for i := range th.Acts {
			a := &th.Acts[i]
			for _, l := range []*[]api.Node{&a.Index, &a.E, &a.F} {
				if *l == nil {
					*l = []api.Node{}
				}
			}
		}
	}
	for thread := range p.Threads {
		for _, reads := range [][]uint64{nil, {}, {1, 2, 3, 4, 5}} {
			if a, b := replay(t, p, thread, reads, 50), replay(t, q, thread, reads, 50); !sameRun(a, b) {
				t.Errorf("R4: thread %d: %+v, %+v", thread, a, b)
			}
		}
	}
}

// Threads of one program know nothing of each other.
func TestR5ThreadsAreAlone(t *testing.T) {
	eachMade(t, 41000, 200, func(m maker, p api.Prog, thread int) {
		reads := m.reads(8)
		only := p
		only.Threads = make([]api.Thread, len(p.Threads))
		only.Threads[thread] = p.Threads[thread]
		if a, b := replay(t, p, thread, reads, 60), replay(t, only, thread, reads, 60); !sameRun(a, b) {
			t.Fatalf("R5: %s, thread %d: %+v; alone %+v", m.name, thread, a, b)
		}
	})
}

// Machines, and clones of one, at the same time.
func TestR5AtTheSameTime(t *testing.T) {
	p := program(t, everything)
	values := []uint64{3, 0, 2, 0, 1, 1, 0, 4, 5, 6, 7}
	m := machine(t, p, 2)
	want := trace(m.Clone(), values)
	wantRun := replay(t, p, 2, values, 100)
	said := make(chan string)
	for range 8 {
		c := m.Clone()
		go func() {
			for range 100 {
				if got := trace(c.Clone(), values); !sameTrace(got, want) {
					said <- fmt.Sprintf("R5: %+v", got)
					return
				}
				if r, e := src.Replay(p, 2, values, 100); e != api.OK || !sameRun(r, wantRun) {
					said <- fmt.Sprintf("R5: %+v, %v", r, e)
					return
				}
			}
			said <- ""
		}()
	}
	for range 8 {
		if s := <-said; s != "" {
			t.Error(s)
		}
	}
}

// Whatever is handed in: no call panics, each ends, and what is taken can be gone through.
func TestR1Anything(t *testing.T) {
	roll := dice(4711)
	wild := []int{math.MinInt, -1 << 32, -2, -1, 0, 1, 2, 3, 4, 5, 6, 8, 11, 20, 24, 25, 64, 1 << 32, math.MaxInt}
	anything := func() int { return wild[roll(len(wild))] }
	taken, refused := 0, 0
	for i := range 3000 {
		p := maker{roll: roll}.prog()
		for range i % 4 { // one number or another is anything
			th := &p.Threads[roll(len(p.Threads))]
			if len(th.Acts) == 0 {
				th.Locals = anything()
				continue
			}
			a := &th.Acts[roll(len(th.Acts))]
			fields := []*int{&a.Op, &a.Dst, &a.Base, &a.Size, &a.Mode, &a.To, &p.Cells, &th.Locals}
			for _, l := range [][]api.Node{a.Index, a.E, a.F} {
				for j := range l {
					fields = append(fields, &l[j].Op, &l[j].A, &l[j].B)
				}
			}
			*fields[roll(len(fields))] = anything()
		}
		thread, fuel := roll(5)-1, anything()
		src.Replay(p, thread, maker{roll: roll}.reads(roll(9)), fuel)
		m, e := src.New(p, thread)
		if e != api.OK {
			refused++
			continue
		}
		taken++
		trace(m, maker{roll: roll}.reads(9))
		if c := m.Clone(); len(c.Locals()) != p.Threads[thread].Locals {
			t.Fatalf("P13.1: %d locals of %d", len(c.Locals()), p.Threads[thread].Locals)
		}
		for _, a := range p.Threads[thread].Acts {
			src.Value(a.E, make([]uint64, roll(30)))
		}
	}
	if taken < 300 || refused < 500 {
		t.Errorf("not all is tried: %d are taken, %d refused", taken, refused)
	}
}
