package src_test

import (
	"fmt"
	"reflect"
	"slices"
	"testing"

	"sextant/api"
	"sextant/check"
	"sextant/lang"
	"sextant/src"
)

// loop is chapter 7's first example.
const loop = "shared x, a[4]; thread { let r = load(x, acq); while (r) { r = r - 1; store(a[r], r, rel); } }"

// everything is a program with every kind of act, in four threads, one of which has none.
const everything = `shared x, a[4], y;
thread { let r = load(x, acq); let s = xchg(a[r], r + 1, acqrel); r = fadd(a[s - 1], s, rel); print(r * s); fence(sc); }
thread { }
thread { let n = 3; while (n) { let v = cas(y, n, n - 1, sc); if (v == n) { store(a[n], v, rel); } else { print(~v); } n = n - 1; } print(n); }
thread { let r = xchg(x, 7, acq); if (r > 1) { fence(acq); } print(r); r = cas(x, r, 9, rlx); store(y, r, sc); }`

// program checks a text that has no fault.
func program(t *testing.T, text string) api.Prog {
	t.Helper()
	x, f := lang.Parse([]byte(text))
	if f != (api.Fault{}) {
		t.Fatalf("%q: %v", text, f)
	}
	p, f := check.Check(x)
	if f != (api.Fault{}) {
		t.Fatalf("%q: %v", text, f)
	}
	return p
}

// alone is a program of 8 cells whose only thread has 4 locals and these acts.
func alone(acts ...api.Act) api.Prog {
	return api.Prog{Cells: 8, Threads: []api.Thread{{Locals: 4, Acts: acts}}}
}

// machine makes one of a program that is one.
func machine(t *testing.T, p api.Prog, thread int) *src.Machine {
	t.Helper()
	m, e := src.New(p, thread)
	if e != api.OK || m == nil {
		t.Fatalf("P13.1: %v of thread %d of %.500s", e, thread, fmt.Sprintf("%+v", p))
	}
	return m
}

// replay runs a thread of a program that is one.
func replay(t *testing.T, p api.Prog, thread int, reads []uint64, fuel int) api.Run {
	t.Helper()
	r, e := src.Replay(p, thread, reads, fuel)
	if e != api.OK {
		t.Fatalf("P13.4: %v of thread %d of %.500s, fuel %d", e, thread, fmt.Sprintf("%+v", p), fuel)
	}
	return r
}

// Expressions. Those of operations put their operands' nodes one behind the other.
func num(v uint64) []api.Node { return []api.Node{{Op: api.OpNum, Val: v}} }

func local(n int) []api.Node { return []api.Node{{Op: api.OpLocal, Val: uint64(n)}} }

func one(op int, a []api.Node) []api.Node {
	return append(slices.Clone(a), api.Node{Op: op, A: len(a) - 1})
}

func two(op int, a, b []api.Node) []api.Node {
	out := slices.Clone(a)
	for _, n := range b {
		if n.Op >= api.OpNeg {
			n.A += len(a)
		}
		if n.Op >= api.OpMul {
			n.B += len(a)
		}
		out = append(out, n)
	}
	return append(out, api.Node{Op: op, A: len(a) - 1, B: len(out) - 1})
}

// Acts, as short as they may be told.
func set(dst int, e []api.Node) api.Act { return api.Act{Op: api.ActSet, Dst: dst, E: e} }
func show(e []api.Node) api.Act         { return api.Act{Op: api.ActPrint, E: e} }
func jump(to int) api.Act               { return api.Act{Op: api.ActJump, To: to} }
func fence(mode int) api.Act            { return api.Act{Op: api.ActFence, Mode: mode} }
func zero(e []api.Node, to int) api.Act { return api.Act{Op: api.ActZero, E: e, To: to} }

func load(dst, cell, mode int) api.Act {
	return api.Act{Op: api.ActLoad, Dst: dst, Base: cell, Mode: mode}
}

// What may be wanted.
var (
	wantHalt = api.Want{What: api.WantHalt}
	wantFuel = api.Want{What: api.WantFuel}
)

func wantPrint(v uint64) api.Want   { return api.Want{What: api.WantPrint, Val: v} }
func wantFence(mode int) api.Want   { return api.Want{What: api.WantFence, Mode: mode} }
func wantLoad(loc, m int) api.Want  { return api.Want{What: api.WantLoad, Loc: loc, Mode: m} }
func wantFirst(loc, m int) api.Want { return api.Want{What: api.WantLoad, Loc: loc, Mode: m, Ex: true} }

func wantStore(loc int, v uint64, m int) api.Want {
	return api.Want{What: api.WantStore, Loc: loc, Val: v, Mode: m}
}

func wantSecond(loc int, v uint64, m int) api.Want {
	return api.Want{What: api.WantStore, Loc: loc, Val: v, Mode: m, Ex: true}
}

// told asks a machine, more than once, and holds what it tells against what is wanted.
func told(t *testing.T, what string, m *src.Machine, want api.Want) {
	t.Helper()
	for i := range 3 {
		if got := m.Next(); got != want {
			t.Fatalf("P13.2: %s: asked for the %d. time: %+v, want %+v", what, i+1, got, want)
		}
	}
}

// fed feeds a machine that wants something.
func fed(t *testing.T, what string, m *src.Machine, v uint64) {
	t.Helper()
	if e := m.Feed(v); e != api.OK {
		t.Fatalf("P13.3: %s: %v", what, e)
	}
}

// notFed feeds a machine that may not be: nothing changes.
func notFed(t *testing.T, what string, m *src.Machine) {
	t.Helper()
	before := m.Locals()
	for _, v := range []uint64{0, 1, 1<<64 - 1} {
		if e := m.Feed(v); e != api.EARG {
			t.Fatalf("P13.3: %s: fed %d: %v, want EARG", what, v, e)
		}
	}
	if got := m.Locals(); !slices.Equal(got, before) {
		t.Fatalf("P13.3, R3: %s: fed in vain: locals %v, were %v", what, got, before)
	}
}

func holdLocals(t *testing.T, what string, m *src.Machine, want ...uint64) {
	t.Helper()
	if got := m.Locals(); !slices.Equal(got, want) {
		t.Fatalf("P13.1, P13.3: %s: locals %v, want %v", what, got, want)
	}
}

// sameRun: are the runs one? nil and an empty list are.
func sameRun(a, b api.Run) bool {
	return slices.Equal(a.Events, b.Events) && slices.Equal(a.Rmw, b.Rmw) && slices.Equal(a.Outs, b.Outs) &&
		len(a.Addr)+len(b.Addr)+len(a.Data)+len(b.Data)+len(a.Ctrl)+len(b.Ctrl) == 0 &&
		a.State == b.State && a.Loc == b.Loc && a.Used == b.Used
}

func holdRun(t *testing.T, what string, got, want api.Run) {
	t.Helper()
	if !sameRun(got, want) {
		t.Fatalf("P13.4: %.500s: %.500s; want %.500s", what, fmt.Sprintf("%+v", got), fmt.Sprintf("%+v", want))
	}
}

// isNothing: has a run nothing at all?
func isNothing(r api.Run) bool { return sameRun(r, api.Run{}) }

// Copies with lists of their own.
func copyProg(p api.Prog) api.Prog {
	p.Threads = slices.Clone(p.Threads)
	for i := range p.Threads {
		p.Threads[i].Acts = slices.Clone(p.Threads[i].Acts)
		for j := range p.Threads[i].Acts {
			a := &p.Threads[i].Acts[j]
			a.Index, a.E, a.F = slices.Clone(a.Index), slices.Clone(a.E), slices.Clone(a.F)
		}
	}
	return p
}

// roomy is a copy of a program whose lists have room behind them, with something in it.
func roomy(p api.Prog) api.Prog {
	list := func(l []api.Node) []api.Node {
		return append(slices.Clone(l), api.Node{Op: 1}, api.Node{A: 5})[:len(l)]
	}
	out := copyProg(p)
	for i := range out.Threads {
		t := &out.Threads[i]
		for j := range t.Acts {
			a := &t.Acts[j]
			a.Index, a.E, a.F = list(a.Index), list(a.E), list(a.F)
		}
		t.Acts = append(t.Acts, api.Act{Op: 77}, api.Act{To: 5})[:len(t.Acts)]
	}
	out.Threads = append(out.Threads, api.Thread{Locals: 99})[:len(out.Threads)]
	return out
}

// widened is a copy of a program with what stands in the room behind its lists.
func widened(p api.Prog) api.Prog {
	p.Threads = slices.Clone(p.Threads[:cap(p.Threads)])
	for i := range p.Threads {
		t := &p.Threads[i]
		t.Acts = slices.Clone(t.Acts[:cap(t.Acts)])
		for j := range t.Acts {
			a := &t.Acts[j]
			a.Index, a.E, a.F = slices.Clone(a.Index[:cap(a.Index)]), slices.Clone(a.E[:cap(a.E)]), slices.Clone(a.F[:cap(a.F)])
		}
	}
	return p
}

func unchanged(p, before api.Prog) bool { return reflect.DeepEqual(widened(p), before) }

// spoil writes over all that a program's lists have, the room behind them too.
func spoil(p api.Prog) {
	for _, t := range p.Threads {
		for _, a := range t.Acts {
			for _, l := range [][]api.Node{a.Index, a.E, a.F} {
				l = l[:cap(l)]
				for i := range l {
					l[i] = api.Node{Op: api.OpLocal, Val: 1 << 40, A: -1, B: 1 << 40}
				}
			}
		}
		acts := t.Acts[:cap(t.Acts)]
		for i := range acts {
			acts[i] = api.Act{Op: 77, Dst: -1, Base: -5, Mode: 99, To: -1}
		}
	}
	clear(p.Threads[:cap(p.Threads)])
}

// dice gives numbers from 0 to n - 1 that look like chance and are the same in each run.
func dice(seed uint64) func(n int) int {
	return func(n int) int {
		seed += 0x9e3779b97f4a7c15
		z := (seed ^ seed>>30) * 0xbf58476d1ce4e5b9
		z = (z ^ z>>27) * 0x94d049bb133111eb
		return int((z ^ z>>31) % uint64(n))
	}
}
