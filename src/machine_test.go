package src_test

import (
	"fmt"
	"math"
	"testing"

	"sextant/api"
	"sextant/src"
)

func notMade(t *testing.T, what string, p api.Prog, thread int) {
	t.Helper()
	if m, e := src.New(p, thread); m != nil || e != api.EARG {
		t.Errorf("P13.1, R2: %s: %v, %v; want nil, EARG", what, m, e)
	}
	for _, fuel := range []int{0, 9, api.MaxFuel} {
		if r, e := src.Replay(p, thread, []uint64{1, 2}, fuel); !isNothing(r) || e != api.EARG {
			t.Errorf("P13.4, R2: %s: %+v, %v; want nothing, EARG", what, r, e)
		}
	}
}

func TestP13_1NewOfNoThread(t *testing.T) {
	for text, n := range map[string]int{"": 0, "shared x;": 0, loop: 1, everything: 4} {
		p := program(t, text)
		for _, thread := range []int{math.MinInt, -2, -1, n, n + 1, n + 64, 1 << 32, 1<<32 + n, math.MaxInt} {
			notMade(t, fmt.Sprint(n, " threads, number ", thread), p, thread)
		}
		for thread := range n {
			machine(t, p, thread)
		}
	}
	full := api.Prog{Threads: make([]api.Thread, api.MaxThreads)}
	machine(t, full, 63)
	notMade(t, "behind the last of all threads", full, 64)
}

// Programs that are none. Another thread than the one that is asked for is looked at, too.
func TestP13_1NewOfNoProgram(t *testing.T) {
	n := num(7)
	notMade(t, "no cells", api.Prog{Cells: -1, Threads: make([]api.Thread, 1)}, 0)
	notMade(t, "too many cells", api.Prog{Cells: api.MaxCells + 1, Threads: make([]api.Thread, 1)}, 0)
	notMade(t, "too many threads", api.Prog{Threads: make([]api.Thread, api.MaxThreads+1)}, 0)
	for _, locals := range []int{-1, api.MaxLocals + 1, math.MinInt, math.MaxInt} {
		notMade(t, fmt.Sprint(locals, " locals"), api.Prog{Threads: []api.Thread{{Locals: locals}}}, 0)
	}
	long := make([]api.Act, api.MaxText+1)
	for i := range long {
		long[i] = jump(0)
	}
	notMade(t, "too many acts", alone(long...), 0)
	machine(t, alone(long[1:]...), 0)
	for i, a := range []api.Act{
		{}, {Op: 11}, {Op: -1}, {Op: math.MaxInt}, set(4, n), set(-1, n), set(0, nil), set(0, local(4)), {Op: api.ActSet, E: n, F: n}, {Op: api.ActSet, E: n, Mode: 1}, {Op: api.ActSet, E: n, To: 1},
		load(0, 8, api.Rlx), load(0, -1, api.Rlx), load(4, 0, api.Rlx), load(0, 0, 0), load(0, 0, api.Rel), load(0, 0, api.AcqRel), load(0, 0, 6), load(0, 0, api.Plain), {Op: api.ActLoad, Mode: 1, Size: 3, Index: n}, {Op: api.ActLoad, Mode: 1, Size: 2}, {Op: api.ActLoad, Mode: 1, Index: n}, {Op: api.ActLoad, Mode: 1, Base: 7, Size: 2, Index: n},
		{Op: api.ActStore, Mode: 1}, {Op: api.ActStore, Mode: api.Acq, E: n}, {Op: api.ActStore, Mode: api.AcqRel, E: n}, {Op: api.ActStore, Mode: 1, E: n, Dst: 1}, {Op: api.ActXchg, Mode: 1}, {Op: api.ActXchg, E: n}, {Op: api.ActFadd, Mode: 6, E: n}, {Op: api.ActFadd, Mode: 1, E: n, F: n}, {Op: api.ActCas, Mode: 1, E: n}, {Op: api.ActCas, Mode: 1, F: n},
		fence(0), fence(api.Rlx), fence(6), show(nil), show(append(num(1), n...)), {Op: api.ActPrint, E: n, Mode: 5}, jump(-1), jump(2), {Op: api.ActJump, E: n}, zero(nil, 0), zero(n, 2), zero(n, -1),
	} {
		p := alone(a)
		notMade(t, fmt.Sprintf("case %d", i), p, 0)
		p.Threads = append(p.Threads, api.Thread{Acts: []api.Act{show(n)}})
		notMade(t, fmt.Sprintf("case %d, ahead of the thread", i), p, 1)
		p.Threads[0], p.Threads[1] = p.Threads[1], p.Threads[0]
		notMade(t, fmt.Sprintf("case %d, behind the thread", i), p, 0)
	}
}

// At the beginning: all locals are 0, and no act has been done, nor is one, before it is asked.
func TestP13_1Beginning(t *testing.T) {
	for n := range api.MaxLocals + 1 {
		p := api.Prog{Threads: []api.Thread{{Locals: 3}, {Locals: n}}}
		for i := range n {
			p.Threads[1].Acts = append(p.Threads[1].Acts, set(i, num(uint64(i+5))))
		}
		m := machine(t, p, 1)
		holdLocals(t, "at the beginning", m, make([]uint64, n)...)
		holdLocals(t, "of another thread", machine(t, p, 0), 0, 0, 0)
		told(t, "all set", m, wantHalt)
		want := make([]uint64, n)
		for i := range want {
			want[i] = uint64(i + 5)
		}
		holdLocals(t, "all set", m, want...)
	}
}

// Each act that goes by itself, by what it leaves behind.
func TestP13_2ActsByThemselves(t *testing.T) {
	halts := func(what string, want []uint64, acts ...api.Act) {
		t.Helper()
		m := machine(t, alone(acts...), 0)
		told(t, what, m, wantHalt)
		holdLocals(t, what, m, want...)
	}
	halts("nothing", []uint64{0, 0, 0, 0})
	halts("set", []uint64{0, 9, 0, 0}, set(1, num(9)))
	halts("set by itself", []uint64{0, 0, 8, 0}, set(2, num(9)), set(2, two(api.OpSub, local(2), num(1))))
	halts("set by another", []uint64{18, 9, 0, 0}, set(1, num(9)), set(0, two(api.OpAdd, local(1), local(1))))
	halts("jump", []uint64{0, 0, 7, 0}, jump(2), set(1, num(9)), set(2, num(7)))
	halts("jump to the end", []uint64{0, 0, 0, 0}, jump(3), set(1, num(9)), set(2, num(7)))
	halts("jump back", []uint64{0, 0, 7, 0}, jump(3), set(2, num(7)), jump(4), jump(1))
	halts("zero", []uint64{0, 0, 7, 0}, zero(num(0), 2), set(1, num(9)), set(2, num(7)))
	halts("zero to the end", []uint64{0, 0, 0, 0}, zero(local(0), 3), set(1, num(9)), set(2, num(7)))
	for _, v := range []uint64{1, 2, 1 << 32, 1 << 63, top} {
		halts("not zero", []uint64{0, 9, 7, 0}, zero(num(v), 3), set(1, num(9)), set(2, num(7)))
	}
	halts("a loop", []uint64{0, 10, 0, 0}, set(0, num(4)), zero(local(0), 5), set(1, two(api.OpAdd, local(1), local(0))), set(0, two(api.OpSub, local(0), num(1))), jump(1))
}

// Each act that wants something, in every mode, by what it wants.
func TestP13_2Prints(t *testing.T) {
	m := machine(t, alone(show(num(top)), set(1, num(3)), show(two(api.OpShl, local(1), local(1))), show(num(0))), 0)
	for _, v := range []uint64{top, 24, 0} {
		told(t, "print", m, wantPrint(v))
		fed(t, "print", m, 99)
	}
	told(t, "print", m, wantHalt)
	holdLocals(t, "print", m, 0, 3, 0, 0)
}

func TestP13_2Fences(t *testing.T) {
	m := machine(t, alone(fence(api.Acq), fence(api.Rel), fence(api.AcqRel), fence(api.SC)), 0)
	for _, mode := range []int{api.Acq, api.Rel, api.AcqRel, api.SC} {
		told(t, "fence", m, wantFence(mode))
		fed(t, "fence", m, 99)
	}
	told(t, "fence", m, wantHalt)
	holdLocals(t, "fence", m, 0, 0, 0, 0)
}

func TestP13_2Stores(t *testing.T) {
	for _, mode := range []int{api.Rlx, api.Rel, api.SC} {
		for cell := range 8 {
			a := api.Act{Op: api.ActStore, Base: cell, E: two(api.OpSub, local(0), num(1)), Mode: mode}
			m := machine(t, alone(a), 0)
			told(t, "store", m, wantStore(cell, top, mode))
			fed(t, "store", m, 5)
			told(t, "store", m, wantHalt)
			holdLocals(t, "store", m, 0, 0, 0, 0)
		}
	}
}

func TestP13_2Loads(t *testing.T) {
	for _, mode := range []int{api.Rlx, api.Acq, api.SC} {
		for cell := range 8 {
			for _, v := range []uint64{0, 1, 1 << 63, top} {
				m := machine(t, alone(set(2, num(6)), load(2, cell, mode)), 0)
				told(t, "load", m, wantLoad(cell, mode))
				holdLocals(t, "load, not fed", m, 0, 0, 6, 0)
				fed(t, "load", m, v)
				holdLocals(t, "load, fed", m, 0, 0, v, 0)
				told(t, "load", m, wantHalt)
			}
		}
	}
}

// rmwModes are those of an RMW, of its read and of its write, as DOC.md says.
var rmwModes = []struct{ mode, read, write int }{
	{api.Rlx, api.Rlx, api.Rlx}, {api.Acq, api.Acq, api.Rlx}, {api.Rel, api.Rlx, api.Rel}, {api.AcqRel, api.Acq, api.Rel}, {api.SC, api.SC, api.SC},
}

func TestP13_2Pairs(t *testing.T) {
	for _, c := range rmwModes {
		for _, x := range []struct {
			op              int
			e, f, read, put uint64
		}{
			{api.ActXchg, 5, 0, 9, 5}, {api.ActXchg, top, 0, 0, top}, {api.ActXchg, 5, 0, 5, 5},
			{api.ActFadd, 5, 0, 9, 14}, {api.ActFadd, top, 0, 3, 2}, {api.ActFadd, 1 << 63, 0, 1 << 63, 0}, {api.ActFadd, 0, 0, 7, 7},
			{api.ActCas, 5, 8, 5, 8}, {api.ActCas, 0, top, 0, top}, {api.ActCas, top, 0, top, 0}, {api.ActCas, 6, 6, 6, 6},
		} {
			what := fmt.Sprintf("act %d, mode %d", x.op, c.mode)
			a := api.Act{Op: x.op, Dst: 3, Base: 6, E: num(x.e), Mode: c.mode}
			if x.op == api.ActCas {
				a.F = num(x.f)
			}
			m := machine(t, alone(set(3, num(77)), a, show(local(3))), 0)
			told(t, what, m, wantFirst(6, c.read))
			fed(t, what, m, x.read)
			holdLocals(t, what+", in the middle", m, 0, 0, 0, 77)
			told(t, what, m, wantSecond(6, x.put, c.write))
			holdLocals(t, what+", in the middle", m, 0, 0, 0, 77)
			fed(t, what, m, 1234)
			holdLocals(t, what+", done", m, 0, 0, 0, x.read)
			told(t, what, m, wantPrint(x.read))
			fed(t, what, m, 0)
			told(t, what, m, wantHalt)
		}
	}
}

// A compare-and-swap that finds another value is done with its read.
func TestP13_2CasThatFindsAnother(t *testing.T) {
	for _, c := range rmwModes {
		for _, x := range []struct{ e, read uint64 }{{5, 6}, {0, 1}, {0, 1 << 32}, {5, 5 + 1<<32}, {top, 0}, {1 << 63, 0}, {8, 9}} {
			a := api.Act{Op: api.ActCas, Dst: 1, Base: 2, E: num(x.e), F: num(x.read), Mode: c.mode}
			m := machine(t, alone(set(1, num(77)), a, show(local(1))), 0)
			told(t, "cas", m, wantFirst(2, c.read))
			fed(t, "cas", m, x.read)
			holdLocals(t, "cas", m, 0, x.read, 0, 0)
			told(t, "cas", m, wantPrint(x.read))
		}
	}
}

// Cells by an index modulo Size, whatever wants them.
func TestP13_2Cells(t *testing.T) {
	for _, place := range []api.Pair{{A: 0, B: 1}, {A: 7, B: 1}, {A: 3, B: 2}, {A: 4, B: 4}, {A: 0, B: 8}, {A: 1, B: 4}} {
		for _, index := range edges {
			cell := place.A + int(index%uint64(place.B))
			a := api.Act{Dst: 1, Base: place.A, Size: place.B, Index: two(api.OpAdd, local(0), num(0))}
			a.Op, a.Mode = api.ActLoad, api.Acq
			m := machine(t, alone(set(0, num(index)), a), 0)
			told(t, "load", m, wantLoad(cell, api.Acq))
			a.Op, a.Mode, a.E = api.ActXchg, api.SC, num(4)
			m = machine(t, alone(set(0, num(index)), a), 0)
			told(t, "xchg", m, wantFirst(cell, api.SC))
			fed(t, "xchg", m, 9)
			told(t, "xchg", m, wantSecond(cell, 4, api.SC))
			a.Op, a.Mode, a.Dst = api.ActStore, api.Rel, 0
			m = machine(t, alone(set(0, num(index)), a), 0)
			told(t, "store", m, wantStore(cell, 4, api.Rel))
		}
	}
	big := api.Act{Op: api.ActLoad, Base: 3072, Size: 1024, Index: num(top), Mode: api.Rlx}
	p := api.Prog{Cells: api.MaxCells, Threads: []api.Thread{{Locals: 1, Acts: []api.Act{big}}}}
	told(t, "the last cell", machine(t, p, 0), wantLoad(4095, api.Rlx))
}

// Dst may stand in the act's own expressions: they are worked out ahead.
func TestP13_2ExpressionsAhead(t *testing.T) {
	p := program(t, `shared a[8]; thread { let r = 3; let s = 1;
		r = load(a[r], rlx); r = xchg(a[r], r + s, sc); r = fadd(a[r], r, sc); r = cas(a[r - s], r, r * r, sc); r = cas(a[r], r, r, sc); print(r); }`)
	m := machine(t, p, 0)
	for i, c := range []struct {
		want api.Want
		fed  uint64
	}{
		{wantLoad(3, api.Rlx), 5}, {wantFirst(5, api.SC), 7}, {wantSecond(5, 6, api.SC), 66}, {wantFirst(7, api.SC), 10}, {wantSecond(7, 17, api.SC), 66},
		{wantFirst(1, api.SC), 10}, {wantSecond(1, 100, api.SC), 66}, {wantFirst(2, api.SC), 11}, {wantPrint(11), 66}, {wantHalt, 0},
	} {
		told(t, fmt.Sprint("asked for ", i), m, c.want)
		if c.want != wantHalt {
			fed(t, fmt.Sprint("asked for ", i), m, c.fed)
		}
	}
}

// Feed ahead of Next, twice, behind WantHalt.
func TestP13_3NotFed(t *testing.T) {
	p := program(t, everything)
	for thread := range p.Threads {
		m := machine(t, p, thread)
		notFed(t, "ahead of Next", m)
		for i := range 100 {
			w := m.Next()
			if w == wantHalt {
				notFed(t, "behind WantHalt", m)
				told(t, "behind WantHalt", m, wantHalt)
				notFed(t, "behind WantHalt", m)
				break
			}
			told(t, "asked again", m, w)
			fed(t, "asked", m, uint64(i%4))
			notFed(t, "fed already", m)
			twin := m.Clone()
			if a, b := m.Next(), twin.Next(); a != b {
				t.Fatalf("P13.3, R3: fed in vain: %+v, want %+v", a, b)
			}
		}
		told(t, "all fed", m, wantHalt)
	}
}

// What is fed but to a load is not looked at.
func TestP13_3OnlyLoadsLook(t *testing.T) {
	p := program(t, everything)
	for thread := range p.Threads {
		a, b := machine(t, p, thread), machine(t, p, thread)
		for i := range 200 {
			w := a.Next()
			told(t, "fed otherwise", b, w)
			if w == wantHalt {
				break
			}
			v := uint64(i % 5)
			fed(t, "one", a, v)
			if w.What != api.WantLoad {
				v = top - v
			}
			fed(t, "other", b, v)
			holdLocals(t, "fed otherwise", b, a.Locals()...)
		}
		told(t, "all fed", a, wantHalt)
	}
}

// A clone that was not asked can't be fed, whatever the other one was; that one stays as it was.
func TestP13_3ClonesAreAskedFirst(t *testing.T) {
	p := program(t, everything)
	for thread := range p.Threads {
		m := machine(t, p, thread)
		c := m.Clone()
		notFed(t, "a clone of a new one", c)
		notFed(t, "a new one that was cloned", m)
		for i := range 100 {
			w := m.Next()
			if w == wantHalt {
				notFed(t, "a clone of one that has halted", m.Clone())
				break
			}
			c = m.Clone()
			notFed(t, "a clone of one that was asked", c)
			told(t, "a clone", c, w)
			fed(t, "the one that was cloned: not asked again", m, uint64(i%4))
			fed(t, "a clone that was asked", c, uint64(i%4))
			holdLocals(t, "a clone", c, m.Locals()...)
			notFed(t, "a clone of one that was fed", m.Clone())
			notFed(t, "a clone of a clone that was fed", c.Clone())
		}
		told(t, "all fed", m, wantHalt)
	}
}

// A clone in the middle of a pair has read what the other one has.
func TestP13_1CloneInAPair(t *testing.T) {
	p := program(t, "shared x, y; thread { let r = fadd(y, 5, rel); let s = xchg(x, r + 1, acqrel); print(r + s); }")
	m := machine(t, p, 0)
	told(t, "fadd", m, wantFirst(1, api.Rlx))
	fed(t, "fadd", m, 40)
	c := m.Clone()
	told(t, "the clone", c, wantSecond(1, 45, api.Rel))
	fed(t, "the clone", c, 0)
	holdLocals(t, "the clone", c, 40, 0)
	holdLocals(t, "the one that was cloned", m, 0, 0)
	told(t, "the clone", c, wantFirst(0, api.Acq))
	fed(t, "the clone", c, 2)
	d := c.Clone()
	told(t, "the one that was cloned", m, wantSecond(1, 45, api.Rel))
	told(t, "the clone's", d, wantSecond(0, 41, api.Rel))
	fed(t, "the clone's", d, 0)
	holdLocals(t, "the clone's", d, 40, 2)
	holdLocals(t, "the clone", c, 40, 0)
	told(t, "the clone's", d, wantPrint(42))
	told(t, "the clone", c, wantSecond(0, 41, api.Rel))
	told(t, "the one that was cloned", m, wantSecond(1, 45, api.Rel))
}
