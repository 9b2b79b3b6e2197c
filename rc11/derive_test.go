package rc11_test

import (
	"fmt"
	"slices"
	"testing"

	"sextant/api"
	"sextant/rc11"
)

// All relations, and all answers of Check, against the document's words, for graphs of all sorts.
func TestP10_1MadeGraphs(t *testing.T) {
	alone, together := map[int]int{}, map[[2]int]int{}
	for i, g := range many(6000) {
		broken := holdModel(t, fmt.Sprint("case ", i), g)
		for a := range broken {
			if len(broken) == 1 {
				alone[a]++
			}
			for b := range broken {
				if a < b {
					together[[2]int{a, b}]++
				}
			}
		}
		if t.Failed() {
			return
		}
	}
	for a := 1; a <= 4; a++ {
		if alone[a] < 10 {
			t.Errorf("not all is tried: the axiom %d alone: %v", a, alone)
		}
		for b := a + 1; b <= 4; b++ {
			if together[[2]int{a, b}] < 3 {
				t.Errorf("not all is tried: the axioms %d and %d: %v", a, b, together)
			}
		}
	}
}

// A release sequence goes on through writes of the same thread and cell, and through pairs of any thread; not through other writes.
func TestP10_1ReleaseSequences(t *testing.T) {
	own := threads(seq(wx(1, X), wy(1, R), wy(2, X)), seq(ry(2, A), rx(0, X)))
	f := derived(t, own)
	holdPairs(t, "Rs, own writes", f.Rs, 0, 0, 1, 1, 2, 2, 3, 3, 3, 4, 4, 4)
	holdPairs(t, "Sw, own writes", f.Sw, 3, 5)
	holdPairs(t, "Hb, own writes", f.Hb, 2, 3, 2, 4, 2, 5, 2, 6, 3, 4, 3, 5, 3, 6, 5, 6)
	holdPairs(t, "Eco, own writes", f.Eco, 0, 2, 0, 6, 1, 3, 1, 4, 1, 5, 3, 4, 3, 5, 4, 5, 6, 2)
	holdPairs(t, "Scb, own writes", f.Scb, 0, 2, 1, 3, 1, 4, 2, 3, 2, 4, 2, 6, 3, 4, 3, 5, 5, 6, 6, 2)
	holdCheck(t, "own writes", own, rc11.Coherence, 2, 6)

	between := withCo(threads(seq(wx(1, X), wy(1, R), wy(2, X)), seq(ry(2, A), rx(0, X)), seq(wy(3, X))), 1, 1, 3, 7, 4)
	holdPairs(t, "Sw, another write between two of its own", derived(t, between).Sw, 3, 5)

	other := threads(seq(wx(1, X), wy(1, R)), seq(ry(2, A), rx(0, X)), seq(wy(2, X)))
	holdPairs(t, "Sw, a write of another thread", derived(t, other).Sw)
	holdCheck(t, "a write of another thread", other, 0)

	earlier := withCo(threads(seq(wx(1, X), wy(2, X), wy(1, R)), seq(ry(2, A), rx(0, X))), 1, 1, 4, 3)
	holdPairs(t, "Sw, an earlier write of its thread", derived(t, earlier).Sw)

	pair := withRmw(threads(seq(wx(1, X), wy(1, R)), seq(ry(1, X), wy(2, X)), seq(ry(2, A), rx(0, X))), 4, 5)
	holdPairs(t, "Rs, a pair", derived(t, pair).Rs, 0, 0, 1, 1, 2, 2, 3, 3, 3, 5, 5, 5)
	holdPairs(t, "Sw, a pair", derived(t, pair).Sw, 3, 6)
	holdCheck(t, "a pair", pair, rc11.Coherence, 2, 7)
	pair.Rmw = nil
	holdPairs(t, "Sw, a read and a write that are no pair", derived(t, pair).Sw)
	holdCheck(t, "a read and a write that are no pair", pair, 0)

	// Its own later write, then three pairs of two threads, one of them of the thread that began.
	long := withRmw(threads(
		seq(wy(1, R), wy(2, X), ry(4, X), wy(5, X)),
		seq(ry(2, X), wy(3, X), ry(3, X), wy(4, X)),
		seq(ry(5, A))), 4, 5, 6, 7, 8, 9)
	f = derived(t, long)
	holdPairs(t, "Rs, pair by pair", f.Rs, 0, 0, 1, 1, 2, 2, 2, 3, 2, 5, 2, 7, 2, 9, 3, 3, 3, 5, 3, 7, 3, 9, 5, 5, 7, 5, 7, 7, 7, 9, 9, 5, 9, 9)
	holdPairs(t, "Sw, pair by pair", f.Sw, 2, 10)

	// A pair that reads itself: a release sequence of its own.
	itself := withRmw(threads(seq(wx(1, X)), seq(rx(1, A), wx(1, R))), 3, 4)
	itself.Rf = pairs(4, 3)
	holdPairs(t, "Rs, a pair that reads itself", derived(t, itself).Rs, 0, 0, 1, 1, 2, 2, 4, 4)
	holdPairs(t, "Sw, a pair that reads itself", derived(t, itself).Sw, 4, 3)
	holdCheck(t, "a pair that reads itself", itself, rc11.Coherence, 3)
}

// Fences ahead of a write and behind a read, of every mode; accesses of every mode beside them.
func TestP10_1Fences(t *testing.T) {
	releases := func(m int) bool { return m == R || m == B || m == S }
	acquires := func(m int) bool { return m == A || m == B || m == S }
	for _, f := range fenceModes {
		for _, h := range fenceModes {
			for _, w := range writeModes {
				for _, r := range readModes {
					g := threads(seq(wx(1, X), ff(f), wy(1, w)), seq(ry(1, r), ff(h), rx(0, X)))
					var want []int
					for _, a := range []int{3, 4} {
						for _, b := range []int{5, 6} {
							if releases(g.Events[a].Mode) && acquires(g.Events[b].Mode) {
								want = append(want, a, b)
							}
						}
					}
					what := fmt.Sprint("fences ", f, h, ", write ", w, ", read ", r)
					holdPairs(t, "Sw, "+what, derived(t, g).Sw, want...)
					if len(want) > 0 {
						holdCheck(t, what, g, rc11.Coherence, 2, 7)
					} else {
						holdCheck(t, what, g, 0)
					}
				}
			}
		}
	}
	behind := threads(seq(wx(1, X), wy(1, X), ff(B)), seq(ff(B), ry(1, X), rx(0, X)))
	holdPairs(t, "Sw, fences on the wrong sides", derived(t, behind).Sw)
	// The write that is read need not be the next one behind the fence, nor the read the last one ahead of the other.
	apart := ofCells(3, seq(ff(R), wx(1, X), wy(1, X)), seq(ry(1, X), read(0, 2, 0, X), ff(A), ff(S)))
	holdPairs(t, "Sw, fences apart", derived(t, apart).Sw, 3, 8, 3, 9)
}

// SC fences on one side and SC accesses on the other, or weaker ones.
func TestP10_1SequenceOfFences(t *testing.T) {
	half := func(f, w, r int) api.Graph {
		return threads(seq(wx(1, X), ff(f), ry(0, X)), seq(wy(1, w), rx(0, r)))
	}
	for _, f := range fenceModes {
		for _, w := range writeModes {
			for _, r := range readModes {
				what := fmt.Sprint("a fence ", f, ", write ", w, ", read ", r)
				if f == S && w == S && r == S {
					holdCheck(t, what, half(f, w, r), rc11.Sequential, 3, 5, 6)
				} else {
					holdCheck(t, what, half(f, w, r), 0)
				}
			}
		}
	}
	f := derived(t, half(S, S, S))
	holdPairs(t, "PscBase, a fence on one side", f.PscBase, 3, 5, 5, 6, 6, 3)
	holdPairs(t, "PscF, a fence on one side", f.PscF)

	f = derived(t, fenced(S, S))
	holdPairs(t, "PscBase, fences on both sides", f.PscBase, 3, 6, 6, 3)
	holdPairs(t, "PscF, fences on both sides", f.PscF, 3, 6, 6, 3)

	// Two fences of one thread, and one that is led to by release and acquire alone: hb is of pscF by itself.
	chained := threads(seq(ff(S), ff(S), wx(1, R)), seq(rx(1, A), ff(S)))
	f = derived(t, chained)
	holdPairs(t, "PscF, by hb", f.PscF, 2, 3, 2, 6, 3, 6)
	holdCheck(t, "fences by hb", chained, 0)

	// By hb, eco and hb: between the fences two reads disagree on a third thread's writes, a way of two steps of eco.
	far := threads(seq(wx(1, X), ff(S), ry(0, X)), seq(wy(1, X)), seq(ry(1, X), ff(S), rx(0, X)))
	f = derived(t, far)
	holdPairs(t, "PscF, by two steps of eco", f.PscF, 3, 7, 7, 3)
	holdPairs(t, "PscBase, by one step", f.PscBase, 7, 3)
	holdCheck(t, "fences by eco", far, rc11.Sequential, 3, 7)
}

// What of po and hb is of scb: po; po that leaves a cell, hb, po that comes to a cell; hb of one cell.
func TestP10_1Scb(t *testing.T) {
	g := ofCells(4, seq(rx(0, S), wy(1, R), write(0, 2, 1, X)), seq(ry(1, A), read(0, 3, 0, S), ry(1, X)))
	f := derived(t, g)
	holdPairs(t, "Sw", f.Sw, 5, 7)
	// 4 leaves its cell for 5, which happens before 7 (and 8), which leaves its cell for 8 (and 9); 5 happens before 9, of one cell.
	holdPairs(t, "Scb", f.Scb, 1, 5, 2, 6, 4, 5, 4, 6, 4, 8, 4, 9, 5, 6, 5, 7, 5, 9, 7, 8, 7, 9, 8, 9)
	holdPairs(t, "PscBase", f.PscBase, 4, 8)

	// Here the way begins within one cell, or ends within one.
	begins := threads(seq(ry(0, S), wy(1, R)), seq(ry(1, A), rx(0, S)))
	holdPairs(t, "PscBase, from one cell to itself", derived(t, begins).PscBase)
	ends := threads(seq(rx(0, S), wy(1, R)), seq(ry(1, A), ry(1, S)))
	holdPairs(t, "PscBase, to one cell from itself", derived(t, ends).PscBase)
	// A fence has no cell: the way from it leaves all of them.
	fences := threads(seq(ff(S), wy(1, R)), seq(ry(1, A), ff(S)))
	holdPairs(t, "Scb, between fences", derived(t, fences).Scb, 1, 3, 2, 3, 2, 5, 3, 4, 4, 5)
}

// EGRAPH: a graph that is not well-formed, and one of the words.
func TestP10_1Refused(t *testing.T) {
	words := buffering(api.Release, api.Acquire, api.Release, api.Acquire)
	words.Events[0].Mode, words.Events[1].Mode = api.Plain, api.Plain
	mixed := copyGraph(words)
	mixed.Events[0].Mode, mixed.Events[1].Mode = X, X
	spoilt := func(change func(g *api.Graph)) api.Graph {
		g := copyGraph(tornPair(A, R, S))
		change(&g)
		return g
	}
	cases := []api.Graph{
		words, mixed, initial(1, api.Plain), initial(3, api.Plain), {Cells: 1}, {Cells: -1},
		spoilt(func(g *api.Graph) { g.Cells = 1 }),
		spoilt(func(g *api.Graph) { g.Events[0].Val = 1 }),
		spoilt(func(g *api.Graph) { g.Events[2].Mode = R }),
		spoilt(func(g *api.Graph) { g.Events[3].Mode = A }),
		spoilt(func(g *api.Graph) { g.Events = append(g.Events, ff(X)) }),
		spoilt(func(g *api.Graph) { g.Events[2].Val = 7 }),
		spoilt(func(g *api.Graph) { g.Rf = nil }),
		spoilt(func(g *api.Graph) { g.Rf[0].A = 3 }),
		spoilt(func(g *api.Graph) { g.Co[0] = []int{0, 4} }),
		spoilt(func(g *api.Graph) { g.Co = g.Co[:1] }),
		spoilt(func(g *api.Graph) { g.Rmw[0].B = 4 }),
		spoilt(func(g *api.Graph) { g.Rmw = pairs(2, 3, 2, 3) }),
		spoilt(func(g *api.Graph) { g.Addr = pairs(2, 3) }),
		spoilt(func(g *api.Graph) { g.Data = pairs(2, 3) }),
		spoilt(func(g *api.Graph) { g.Ctrl = pairs(2, 3) }),
		{Events: slices.Repeat(in(0, ff(S)), api.MaxEvents+1)},
	}
	for i, g := range cases {
		f, e := rc11.Derive(g)
		if e != api.EGRAPH || f != (rc11.Facts{}) {
			t.Errorf("P10.1: case %d: Derive: %v, %+v", i, e, f)
		}
		a, by, e := rc11.Check(g)
		if e != api.EGRAPH || a != 0 || len(by) != 0 {
			t.Errorf("P10.2: case %d: Check: %d, %v, %v", i, a, by, e)
		}
	}
}
