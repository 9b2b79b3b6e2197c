package arm_test

import (
	"slices"
	"testing"

	"sextant/api"
	"sextant/arm"
	"sextant/rel"
)

// world tells the document's relations pair by pair, by looking for the events in between.
type world struct {
	api.Graph
	n     int
	place []int // of each write in its cell's order
	from  []int // of each read the write that it reads
}

func worldOf(g api.Graph) *world {
	w := &world{Graph: g, n: len(g.Events), place: make([]int, len(g.Events)), from: make([]int, len(g.Events))}
	for _, l := range g.Co {
		for i, e := range l {
			w.place[e] = i
		}
	}
	for i := range w.from {
		w.from[i] = -1
	}
	for _, p := range g.Rf {
		w.from[p.B] = p.A
	}
	return w
}

func (w *world) any(holds func(x int) bool) bool {
	for x := range w.n {
		if holds(x) {
			return true
		}
	}
	return false
}

func (w *world) kind(a, kind int) bool { return w.Events[a].Kind == kind }

func (w *world) mode(a int, modes ...int) bool { return slices.Contains(modes, w.Events[a].Mode) }

func (w *world) po(a, b int) bool {
	return a < b && a >= w.Cells && w.Events[a].Thread == w.Events[b].Thread
}

func (w *world) one(a, b int) bool { return w.Events[a].Thread == w.Events[b].Thread }

func (w *world) loc(a, b int) bool {
	return w.Events[a].Loc == w.Events[b].Loc && !w.kind(a, api.Fence)
}

func (w *world) rf(a, b int) bool { return w.from[b] == a }

func (w *world) co(a, b int) bool {
	return w.kind(a, api.Write) && w.kind(b, api.Write) && w.loc(a, b) && w.place[a] < w.place[b]
}

func (w *world) fr(a, b int) bool { return w.from[a] >= 0 && w.co(w.from[a], b) }

func among(l []api.Pair, a, b int) bool { return slices.Contains(l, api.Pair{A: a, B: b}) }

func (w *world) addr(a, b int) bool { return among(w.Addr, a, b) }
func (w *world) data(a, b int) bool { return among(w.Data, a, b) }
func (w *world) ctrl(a, b int) bool { return among(w.Ctrl, a, b) }
func (w *world) rmw(a, b int) bool  { return among(w.Rmw, a, b) }

// clause is one of those that a relation is made of; of: the place of that relation among relationNames.
type clause struct {
	name  string
	of    int
	holds func(a, b int) bool
}

// clauses are all of ob's.
func (w *world) clauses() []clause {
	acquires := func(a int) bool { return w.mode(a, A, Q) }
	across := func(a, b, mode int) bool {
		return w.any(func(x int) bool { return w.mode(x, mode) && w.po(a, x) && w.po(x, b) })
	}
	return []clause{
		{"rfe", 0, func(a, b int) bool { return w.rf(a, b) && !w.one(a, b) }},
		{"coe", 0, func(a, b int) bool { return w.co(a, b) && !w.one(a, b) }},
		{"fre", 0, func(a, b int) bool { return w.fr(a, b) && !w.one(a, b) }},
		{"addr", 1, w.addr},
		{"data", 1, w.data},
		{"ctrl; [W]", 1, func(a, b int) bool { return w.ctrl(a, b) && w.kind(b, api.Write) }},
		{"addr; po; [W]", 1, func(a, b int) bool {
			return w.kind(b, api.Write) && w.any(func(x int) bool { return w.addr(a, x) && w.po(x, b) })
		}},
		{"ctrl; coi", 1, func(a, b int) bool {
			return w.any(func(x int) bool { return w.ctrl(a, x) && w.co(x, b) && w.one(x, b) })
		}},
		{"data; coi", 1, func(a, b int) bool {
			return w.any(func(x int) bool { return w.data(a, x) && w.co(x, b) && w.one(x, b) })
		}},
		{"addr; rfi", 1, func(a, b int) bool {
			return w.any(func(x int) bool { return w.addr(a, x) && w.rf(x, b) && w.one(x, b) })
		}},
		{"data; rfi", 1, func(a, b int) bool {
			return w.any(func(x int) bool { return w.data(a, x) && w.rf(x, b) && w.one(x, b) })
		}},
		{"rmw", 2, w.rmw},
		{"[the writes of rmw]; rfi; [A or Q]", 2, func(a, b int) bool {
			return acquires(b) && w.rf(a, b) && w.one(a, b) && w.any(func(x int) bool { return w.rmw(x, a) })
		}},
		{"po; [Sy]; po", 3, func(a, b int) bool { return across(a, b, Y) }},
		{"[R]; po; [Ld]; po", 3, func(a, b int) bool { return w.kind(a, api.Read) && across(a, b, D) }},
		{"[L]; po; [A]", 3, func(a, b int) bool { return w.mode(a, L) && w.po(a, b) && w.mode(b, A) }},
		{"[A]; po", 3, func(a, b int) bool { return w.mode(a, A) && w.po(a, b) }},
		{"[Q]; po", 3, func(a, b int) bool { return w.mode(a, Q) && w.po(a, b) }},
		{"po; [L]", 3, func(a, b int) bool { return w.po(a, b) && w.mode(b, L) }},
		{"po; [L]; coi", 3, func(a, b int) bool {
			return w.any(func(x int) bool { return w.po(a, x) && w.mode(x, L) && w.co(x, b) && w.one(x, b) })
		}},
	}
}

// rel is a relation by its pairs.
func (w *world) rel(holds func(a, b int) bool) *rel.Rel {
	out := rel.New(w.n)
	for a := range w.n {
		for b := range w.n {
			out.Put(a, b, holds(a, b))
		}
	}
	return out
}

// relations are those of Facts; byClause: that of each clause.
func (w *world) relations() (all, byClause []*rel.Rel) {
	for range relationNames {
		all = append(all, rel.New(w.n))
	}
	for _, c := range w.clauses() {
		r := w.rel(c.holds)
		byClause = append(byClause, r)
		all[c.of], all[4] = rel.Union(all[c.of], r), rel.Union(all[4], r)
	}
	return all, byClause
}

// broken are the axioms that a graph breaks, and by which events.
func (w *world) broken(ob *rel.Rel) map[int][]int {
	out := map[int][]int{}
	if l := rel.Cycle(w.rel(func(a, b int) bool { return w.po(a, b) && w.loc(a, b) || w.rf(a, b) || w.co(a, b) || w.fr(a, b) })); len(l) > 0 {
		out[arm.Internal] = l
	}
	if l := rel.Cycle(ob); len(l) > 0 {
		out[arm.External] = l
	}
	for i := len(w.Rmw) - 1; i >= 0; i-- {
		p := w.Rmw[i]
		if w.any(func(x int) bool { return w.fr(p.A, x) && !w.one(p.A, x) && w.co(x, p.B) && !w.one(x, p.B) }) {
			out[arm.Atomicity] = []int{p.A, p.B}
		}
	}
	return out
}

// first is what Check tells of these.
func first(broken map[int][]int) (axiom int, by []int) {
	for axiom = 1; axiom <= 3; axiom++ {
		if by = broken[axiom]; len(by) > 0 {
			return axiom, by
		}
	}
	return 0, nil
}

// holdModel holds both calls of a graph against the document's words.
func holdModel(t *testing.T, what string, g api.Graph) (broken map[int][]int) {
	t.Helper()
	w := worldOf(g)
	f := derived(t, g)
	all, _ := w.relations()
	for i, r := range all {
		if got := relations(f)[i]; !rel.Equal(got, r) {
			t.Fatalf("P11.1: %s: %s is %v; want %v: %+v", what, relationNames[i], got.Pairs(), r.Pairs(), g)
		}
	}
	broken = w.broken(all[4])
	axiom, by := first(broken)
	holdCheck(t, what, g, axiom, by...)
	return broken
}
