package src_test

import (
	"fmt"
	"slices"
	"testing"

	"sextant/api"
	"sextant/check"
)

// maker makes programs whose acts go anywhere, with small numbers, so that loops end and values meet.
type maker struct {
	name string // of what it makes
	roll func(int) int
}

func (m maker) prog() api.Prog {
	p := api.Prog{Cells: 1 + m.roll(12)}
	for range 1 + m.roll(4) {
		t := api.Thread{Locals: 1 + m.roll(5)}
		n := m.roll(16)
		for range n {
			t.Acts = append(t.Acts, m.act(t.Locals, p.Cells, n))
		}
		p.Threads = append(p.Threads, t)
	}
	return p
}

func (m maker) act(locals, cells, acts int) api.Act {
	a := api.Act{Op: api.ActSet + m.roll(10), Line: m.roll(9) - 4, Col: m.roll(9)}
	switch a.Op {
	case api.ActSet, api.ActLoad, api.ActXchg, api.ActFadd, api.ActCas:
		a.Dst = m.roll(locals)
	case api.ActJump, api.ActZero:
		a.To = m.roll(acts + 1)
	}
	if a.Op >= api.ActLoad && a.Op <= api.ActCas {
		a.Base = m.roll(cells)
		if size := []int{0, 1, 2, 4, 8}[m.roll(5)]; size > 0 && size <= cells {
			a.Base, a.Size, a.Index = m.roll(cells-size+1), size, m.expr(locals)
		}
	}
	if a.Op != api.ActLoad && a.Op != api.ActFence && a.Op != api.ActJump {
		a.E = m.expr(locals)
	}
	switch a.Op {
	case api.ActCas:
		a.F = m.expr(locals)
		a.Mode = 1 + m.roll(5)
	case api.ActXchg, api.ActFadd:
		a.Mode = 1 + m.roll(5)
	case api.ActLoad:
		a.Mode = []int{api.Rlx, api.Acq, api.SC}[m.roll(3)]
	case api.ActStore:
		a.Mode = []int{api.Rlx, api.Rel, api.SC}[m.roll(3)]
	case api.ActFence:
		a.Mode = 2 + m.roll(4)
	}
	return a
}

func (m maker) expr(locals int) []api.Node {
	switch m.roll(6) {
	case 0:
		return num(uint64(m.roll(4)))
	case 1, 2:
		return local(m.roll(locals))
	case 3:
		return two(api.OpSub, local(m.roll(locals)), num(1))
	}
	return madeExpr(m.roll, 1+m.roll(6), locals)
}

// reads are mostly small.
func (m maker) reads(n int) []uint64 {
	var out []uint64
	for range n {
		v := uint64(m.roll(4))
		if m.roll(8) == 0 {
			v = edges[m.roll(len(edges))]
		}
		out = append(out, v)
	}
	return out
}

// eachMade hands out the threads of made programs.
func eachMade(t *testing.T, seed, n int, f func(m maker, p api.Prog, thread int)) {
	t.Helper()
	var p api.Prog
	defer func() {
		if t.Failed() {
			t.Logf("the program: %+v", p)
		}
	}()
	for i := range n {
		m := maker{fmt.Sprint("made program ", i), dice(uint64(seed + i))}
		p = m.prog()
		if !check.Whole(p) {
			t.Fatal("the maker made what is no program")
		}
		for thread := range p.Threads {
			f(m, p, thread)
		}
	}
}

// Runs of made threads, with any fuel and any reads, against the model.
func TestP13_4MadeRuns(t *testing.T) {
	states := map[int]int{}
	kinds := map[int]int{}
	eachMade(t, 13000, 3000, func(m maker, p api.Prog, thread int) {
		for range 4 {
			reads := m.reads(m.roll(30))
			fuel := []int{m.roll(20), m.roll(200), 300}[m.roll(3)]
			want := modelReplay(p.Threads[thread], thread, reads, fuel)
			holdRun(t, fmt.Sprintf("%s, thread %d, reads %v, fuel %d", m.name, thread, reads, fuel), replay(t, p, thread, reads, fuel), want)
			if len(want.Events) > 2 {
				states[want.State]++
			}
			for _, e := range want.Events {
				kinds[e.Kind]++
			}
			kinds[0] += len(want.Rmw)
			kinds[-1] += len(want.Outs)
		}
	})
	for _, s := range []int{api.Halted, api.Hungry, api.Spent} {
		if states[s] < 300 {
			t.Errorf("not all is tried: %d runs of some length with the state %d", states[s], s)
		}
	}
	for _, k := range []int{api.Read, api.Write, api.Fence, 0, -1} {
		if kinds[k] < 5000 {
			t.Errorf("not all is tried: %d of kind %d", kinds[k], k)
		}
	}
}

// What made machines tell, asked and fed one by one, and their locals there, against the model.
func TestP13_2P13_3MadeMachines(t *testing.T) {
	seen := map[int]int{}
	eachMade(t, 17000, 3000, func(m maker, p api.Prog, thread int) {
		values := m.reads(40)
		next := 0
		feed := func() uint64 { next++; return values[next-1] }
		stands, goesOn := modelStands(p.Threads[thread], 30, 500, feed)
		x := machine(t, p, thread)
		for i, s := range stands {
			what := fmt.Sprintf("%s, thread %d, stand %d", m.name, thread, i)
			told(t, what, x, s.want)
			holdLocals(t, what, x, s.locals...)
			seen[s.want.What]++
			if s.want == wantHalt {
				notFed(t, what, x)
				continue
			}
			fed(t, what, x, s.fed)
		}
		if goesOn {
			seen[api.WantFuel]++
			if seen[api.WantFuel] < 40 && x.Next() != wantFuel {
				t.Fatalf("P13.2: %s, thread %d: a loop is left", m.name, thread)
			}
		}
	})
	for w := api.WantLoad; w <= api.WantFuel; w++ {
		if seen[w] < 100 {
			t.Errorf("not all is tried: %d of want %d", seen[w], w)
		}
	}
}

// Texts of the language: loops and choices in four threads, against the model.
func TestP13_4Texts(t *testing.T) {
	p := program(t, everything)
	roll := dice(5)
	for range 2000 {
		reads := maker{roll: roll}.reads(roll(8))
		fuel := roll(40)
		for thread := range p.Threads {
			want := modelReplay(p.Threads[thread], thread, reads, fuel)
			holdRun(t, fmt.Sprintf("thread %d, reads %v, fuel %d", thread, reads, fuel), replay(t, p, thread, reads, fuel), want)
		}
	}
	r := replay(t, p, 2, []uint64{3, 0, 1}, 100)
	if !slices.Equal(r.Outs, []uint64{top, 0}) || len(r.Events) != 7 || !slices.Equal(r.Rmw, []api.Pair{{A: 0, B: 1}, {A: 4, B: 5}}) {
		t.Errorf("P13.4: %+v", r)
	}
}
