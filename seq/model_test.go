package seq_test

import (
	"fmt"
	"slices"
	"testing"

	"sextant/api"
	"sextant/rel"
	"sextant/seq"
)

// world tells the document's relations pair by pair, by looking for the events in between.
type world struct {
	api.Graph
	n     int
	place []int // of each write in its cell's order
	from  []int // of each read the write that it reads
}

func worldOf(g api.Graph) *world {
	w := &world{Graph: g, n: len(g.Events), place: make([]int, len(g.Events)), from: make([]int, len(g.Events))}
	for _, l := range g.Co {
		for i, e := range l {
			w.place[e] = i
		}
	}
	for i := range w.from {
		w.from[i] = -1
	}
	for _, p := range g.Rf {
		w.from[p.B] = p.A
	}
	return w
}

func (w *world) any(holds func(x int) bool) bool {
	for x := range w.n {
		if holds(x) {
			return true
		}
	}
	return false
}

func (w *world) kind(a, kind int) bool { return w.Events[a].Kind == kind }

func (w *world) po(a, b int) bool {
	return a < b && a >= w.Cells && w.Events[a].Thread == w.Events[b].Thread
}

func (w *world) one(a, b int) bool { return w.Events[a].Thread == w.Events[b].Thread }

func (w *world) loc(a, b int) bool {
	return w.Events[a].Loc == w.Events[b].Loc && !w.kind(a, api.Fence)
}

func (w *world) rf(a, b int) bool { return w.from[b] == a }

func (w *world) co(a, b int) bool {
	return w.kind(a, api.Write) && w.kind(b, api.Write) && w.loc(a, b) && w.place[a] < w.place[b]
}

func (w *world) fr(a, b int) bool { return w.from[a] >= 0 && w.co(w.from[a], b) }

func (w *world) ofPair(a int) bool {
	return slices.ContainsFunc(w.Rmw, func(p api.Pair) bool { return p.A == a || p.B == a })
}

func (w *world) barrier(a int) bool {
	m := w.Events[a].Mode
	return w.kind(a, api.Fence) && (m == S || m == Y)
}

// clause is one of those that an axiom's union is made of.
type clause struct {
	name  string
	holds func(a, b int) bool
}

func (w *world) scOrder() []clause {
	return []clause{{"po", w.po}, {"rf", w.rf}, {"co", w.co}, {"fr", w.fr}}
}

func (w *world) tsoOrder() []clause {
	return []clause{{"po and loc", func(a, b int) bool { return w.po(a, b) && w.loc(a, b) }}, {"rf", w.rf}, {"co", w.co}, {"fr", w.fr}}
}

func (w *world) tsoGlobal() []clause {
	return []clause{
		{"[R]; po; [R or W]", func(a, b int) bool { return w.po(a, b) && w.kind(a, api.Read) && !w.kind(b, api.Fence) }},
		{"[R or W]; po; [W]", func(a, b int) bool { return w.po(a, b) && !w.kind(a, api.Fence) && w.kind(b, api.Write) }},
		{"po; [B]; po", func(a, b int) bool {
			return w.any(func(x int) bool { return w.barrier(x) && w.po(a, x) && w.po(x, b) })
		}},
		{"po; [P]", func(a, b int) bool { return w.po(a, b) && w.ofPair(b) }},
		{"[P]; po", func(a, b int) bool { return w.po(a, b) && w.ofPair(a) }},
		{"rfe", func(a, b int) bool { return w.rf(a, b) && !w.one(a, b) }},
		{"co", w.co},
		{"fr", w.fr},
	}
}

// union is what some clauses give together.
func (w *world) union(l []clause) *rel.Rel {
	out := rel.New(w.n)
	for a := range w.n {
		for b := range w.n {
			out.Put(a, b, slices.ContainsFunc(l, func(c clause) bool { return c.holds(a, b) }))
		}
	}
	return out
}

// rings are the axioms of a model that a union must be acyclic for.
func (w *world) rings(m model) map[int][]clause {
	if m.name == sc.name {
		return map[int][]clause{seq.Order: w.scOrder()}
	}
	return map[int][]clause{seq.Order: w.tsoOrder(), seq.Global: w.tsoGlobal()}
}

// broken are the axioms of a model that a graph breaks, and by which events.
func (w *world) broken(m model) map[int][]int {
	out := map[int][]int{}
	for axiom, l := range w.rings(m) {
		if by := rel.Cycle(w.union(l)); len(by) > 0 {
			out[axiom] = by
		}
	}
	for i := len(w.Rmw) - 1; i >= 0; i-- {
		p := w.Rmw[i]
		if w.any(func(x int) bool { return w.fr(p.A, x) && w.co(x, p.B) }) {
			out[seq.Atomicity] = []int{p.A, p.B}
		}
	}
	return out
}

// first is what a model tells of these.
func first(broken map[int][]int) (axiom int, by []int) {
	for axiom = 1; axiom <= 3; axiom++ {
		if by = broken[axiom]; len(by) > 0 {
			return axiom, by
		}
	}
	return 0, nil
}

// holdModel holds what a model tells of a graph against the document's words.
func holdModel(t *testing.T, what string, m model, g api.Graph) (broken map[int][]int) {
	t.Helper()
	broken = worldOf(g).broken(m)
	axiom, by := first(broken)
	m.hold(t, what, g, axiom, by...)
	return broken
}

// Both models of many graphs, each axiom broken by itself and each two at once.
func TestP12_1MadeGraphs(t *testing.T) {
	for _, u := range tongues {
		tried := map[string]int{}
		for i, g := range many(6000, u) {
			for _, m := range models {
				broken := worldOf(g).broken(m)
				axiom, by := first(broken)
				if a, l, e := m.tell(g); a != axiom || !slices.Equal(l, by) || e != api.OK {
					t.Fatalf("P12.1: %s %d: %s: %d, by %v, %v; want %d, by %v: %+v", u.name, i, m.name, a, l, e, axiom, by, g)
				}
				tried[m.name+numbers(broken)]++
			}
		}
		for _, what := range []string{"Sc", "Sc 1", "Sc 2", "Sc 1 2", "Tso", "Tso 1", "Tso 2", "Tso 3", "Tso 1 2", "Tso 1 3", "Tso 2 3", "Tso 1 2 3"} {
			if tried[what] < 10 {
				t.Errorf("not all is tried: %s: %s: %d of %v", u.name, what, tried[what], tried)
			}
		}
	}
}

// numbers are those of some axioms, told.
func numbers(broken map[int][]int) (out string) {
	for axiom := range 4 {
		if len(broken[axiom]) > 0 {
			out += fmt.Sprint(" ", axiom)
		}
	}
	return out
}

// Each clause decides: there are graphs that break an axiom by it alone. (Of po; [P] that can't be, where the axioms ahead are kept: what a pair's read is before in fr, its write is before in co. It decides by which events.)
func TestP12_1EachClause(t *testing.T) {
	for _, u := range tongues {
		tried := map[string]int{}
		for _, g := range many(6000, u) {
			for _, m := range models {
				countClauses(t, m, g, tried)
			}
		}
		w := worldOf(api.Graph{})
		for _, m := range models {
			for axiom, l := range w.rings(m) {
				for _, c := range l {
					what := fmt.Sprint(m.name, axiom, c.name)
					if c.name == "po; [P]" {
						what += " by"
					}
					if tried[what] < 5 {
						t.Errorf("not all is tried: %s: %s: %d", u.name, what, tried[what])
					}
				}
			}
		}
	}
}

// countClauses counts the clauses without which the axiom that is told would be kept, or broken by other events.
func countClauses(t *testing.T, m model, g api.Graph, tried map[string]int) {
	t.Helper()
	w := worldOf(g)
	axiom, by := first(w.broken(m))
	if axiom == 0 || axiom == seq.Atomicity {
		return
	}
	l := w.rings(m)[axiom]
	for k, c := range l {
		without := rel.Cycle(w.union(slices.Delete(slices.Clone(l), k, k+1)))
		if what := fmt.Sprint(m.name, axiom, c.name); len(without) == 0 {
			tried[what]++
		} else if !slices.Equal(without, by) {
			tried[what+" by"]++
		}
	}
	m.hold(t, "a graph that a clause forbids", g, axiom, by...)
}
