package arm_test

import (
	"fmt"
	"slices"
	"testing"

	"sextant/api"
	"sextant/arm"
	"sextant/graph"
	"sextant/rel"
)

// All relations, and all answers of Check, against the document's words, for graphs of all sorts.
func TestP11_1MadeGraphs(t *testing.T) {
	alone, together := map[int]int{}, map[[2]int]int{}
	for i, g := range many(6000) {
		broken := holdModel(t, fmt.Sprint("case ", i), g)
		for a := range broken {
			if len(broken) == 1 {
				alone[a]++
			}
			for b := range broken {
				if a < b {
					together[[2]int{a, b}]++
				}
			}
		}
		if t.Failed() {
			return
		}
	}
	for a := 1; a <= 3; a++ {
		if alone[a] < 10 {
			t.Errorf("not all is tried: the axiom %d alone: %v", a, alone)
		}
		for b := a + 1; b <= 3; b++ {
			if together[[2]int{a, b}] < 3 {
				t.Errorf("not all is tried: the axioms %d and %d: %v", a, b, together)
			}
		}
	}
}

// What is tried has, of each clause, pairs that no other clause gives, and graphs that are allowed but for that clause. (Where Internal holds, all that is ahead of a pair's read in ob is ahead of its write without rmw's help.)
func TestMadeClauses(t *testing.T) {
	names := []string{}
	pairs, graphs := map[string]int{}, map[string]int{}
	for _, g := range many(6000) {
		w := worldOf(g)
		all, byClause := w.relations()
		forbidden := len(w.broken(all[4])) == 1 && !rel.Acyclic(all[4])
		names = names[:0]
		for i, c := range w.clauses() {
			names = append(names, c.name)
			others := rel.Union(slices.Delete(slices.Clone(byClause), i, i+1)...)
			if !rel.Within(byClause[i], others) {
				pairs[c.name]++
				if forbidden && rel.Acyclic(others) {
					graphs[c.name]++
				}
			}
		}
	}
	for _, name := range names {
		if pairs[name] < 30 || graphs[name] < 5 && name != "rmw" {
			t.Errorf("not all is tried: %s: %d, %d", name, pairs[name], graphs[name])
		}
	}
}

// The edges: no event and no cell, initial writes alone, fences alone.
func TestP11_1NothingMuch(t *testing.T) {
	for _, g := range []api.Graph{{}, initial(1, P), initial(7, P), initial(256, P), threads(seq(ff(Y)), seq(ff(D), ff(Y)))} {
		f := derived(t, g)
		for i, r := range relations(f) {
			if r.Len() != len(g.Events) || r.Size() != 0 {
				t.Errorf("P11.1: %s of %d events: %d points, %d pairs", relationNames[i], len(g.Events), r.Len(), r.Size())
			}
		}
		holdCheck(t, fmt.Sprint(len(g.Events), " events"), g, 0)
	}
	// A fence is an event too, at either end of bob.
	holdOrders(t, "fences alone", api.Graph{Events: in(0, ff(D), ff(Y), ff(D), ff(Y), ff(D))}, nil, nil, pairs(0, 2, 0, 3, 0, 4, 1, 4, 2, 4))
}

// Ob is the union of the others, with no pair more.
func TestP11_1ObIsTheUnion(t *testing.T) {
	open := 0
	for i, g := range append(many(1500), passing(P, L, A, P), loads(P, P, P, P)) {
		f := derived(t, g)
		if !rel.Equal(f.Ob, rel.Union(f.Obs, f.Dob, f.Aob, f.Bob)) {
			t.Fatalf("P11.1: case %d: Ob is not the union: %+v", i, g)
		}
		if !rel.Equal(f.Ob, rel.Plus(f.Ob)) {
			open++
		}
	}
	if open < 500 {
		t.Errorf("not all is tried: %d", open)
	}
	f := derived(t, passing(P, L, A, P))
	holdPairs(t, "Obs", f.Obs, 0, 2, 0, 5, 1, 3, 3, 4, 5, 2)
	holdPairs(t, "Dob", f.Dob)
	holdPairs(t, "Aob", f.Aob)
	holdPairs(t, "Bob", f.Bob, 2, 3, 4, 5)
	holdPairs(t, "Ob", f.Ob, 0, 2, 0, 5, 1, 3, 2, 3, 3, 4, 4, 5, 5, 2)
}

// EGRAPH: a graph that is not well-formed, and one of the source.
func TestP11_1Refused(t *testing.T) {
	source := buffering(api.Rel, api.Acq, api.Rel, api.Acq)
	source.Events[0].Mode, source.Events[1].Mode = api.Rlx, api.Rlx
	if rule, _ := graph.Check(source, false); rule != 0 {
		t.Fatalf("the source's graph breaks the rule %d", rule)
	}
	mixed := copyGraph(source)
	mixed.Events[0].Mode, mixed.Events[1].Mode = P, P
	spoilt := func(change func(g *api.Graph)) api.Graph {
		g := copyGraph(tornPair(A, L, P))
		g.Addr, g.Data, g.Ctrl = pairs(2, 3), pairs(2, 3), pairs(2, 3)
		holdCheck(t, "what is spoilt", g, arm.Atomicity, 2, 3)
		change(&g)
		return g
	}
	cases := []api.Graph{
		source, mixed, initial(1, api.Rlx), initial(3, api.Rlx), {Cells: 1}, {Cells: -1},
		{Events: in(0, ff(api.SC))},
		spoilt(func(g *api.Graph) { g.Cells = 1 }),
		spoilt(func(g *api.Graph) { g.Events[0].Val = 1 }),
		spoilt(func(g *api.Graph) { g.Events[1].Mode = L }),
		spoilt(func(g *api.Graph) { g.Events[2].Mode = L }),
		spoilt(func(g *api.Graph) { g.Events[3].Mode = A }),
		spoilt(func(g *api.Graph) { g.Events[3].Mode = Q }),
		spoilt(func(g *api.Graph) { g.Events = append(g.Events, ff(P)) }),
		spoilt(func(g *api.Graph) { g.Events[2].Val = 7 }),
		spoilt(func(g *api.Graph) { g.Rf = nil }),
		spoilt(func(g *api.Graph) { g.Rf[0].A = 3 }),
		spoilt(func(g *api.Graph) { g.Co[0] = []int{0, 4} }),
		spoilt(func(g *api.Graph) { g.Co = g.Co[:1] }),
		spoilt(func(g *api.Graph) { g.Rmw[0].B = 4 }),
		spoilt(func(g *api.Graph) { g.Rmw = pairs(2, 3, 2, 3) }),
		spoilt(func(g *api.Graph) { g.Addr = pairs(2, 4) }),
		spoilt(func(g *api.Graph) { g.Data = pairs(3, 2) }),
		spoilt(func(g *api.Graph) { g.Ctrl = pairs(2, 3, 2, 3) }),
		{Events: slices.Repeat(in(0, ff(Y)), api.MaxEvents+1)},
	}
	for i, g := range cases {
		f, e := arm.Derive(g)
		if e != api.EGRAPH || f != (arm.Facts{}) {
			t.Errorf("P11.1: case %d: Derive: %v, %+v", i, e, f)
		}
		a, by, e := arm.Check(g)
		if e != api.EGRAPH || a != 0 || len(by) != 0 {
			t.Errorf("P11.2: case %d: Check: %d, %v, %v", i, a, by, e)
		}
	}
}
