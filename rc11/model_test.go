package rc11_test

import (
	"slices"
	"testing"

	"sextant/api"
	"sextant/rc11"
	"sextant/rel"
)

// world tells the document's relations pair by pair, by looking for the events in between.
type world struct {
	api.Graph
	n             int
	place         []int // of each write in its cell's order
	hbs, ecos     [][]bool
	sws, rss, scs [][]bool
}

func worldOf(g api.Graph) *world {
	w := &world{Graph: g, n: len(g.Events), place: make([]int, len(g.Events))}
	for _, l := range g.Co {
		for i, e := range l {
			w.place[e] = i
		}
	}
	w.rss = w.all(w.rs)
	w.sws = w.all(w.sw)
	w.hbs = w.ways(func(a, b int) bool { return w.po(a, b) || w.sws[a][b] })
	w.ecos = w.ways(func(a, b int) bool { return w.rf(a, b) || w.co(a, b) || w.fr(a, b) })
	w.scs = w.all(w.scb)
	return w
}

func (w *world) all(holds func(a, b int) bool) [][]bool {
	out := make([][]bool, w.n)
	for a := range out {
		out[a] = make([]bool, w.n)
		for b := range out[a] {
			out[a][b] = holds(a, b)
		}
	}
	return out
}

// ways is the closure: from each event by steps to all that are met.
func (w *world) ways(step func(a, b int) bool) [][]bool {
	out := make([][]bool, w.n)
	for a := range out {
		out[a] = make([]bool, w.n)
		for todo := []int{a}; len(todo) > 0; todo = todo[1:] {
			for b := range w.n {
				if !out[a][b] && step(todo[0], b) {
					out[a][b] = true
					todo = append(todo, b)
				}
			}
		}
	}
	return out
}

func (w *world) any(holds func(x int) bool) bool {
	for x := range w.n {
		if holds(x) {
			return true
		}
	}
	return false
}

func (w *world) kind(a, kind int) bool { return w.Events[a].Kind == kind }

func (w *world) mode(a int, modes ...int) bool { return slices.Contains(modes, w.Events[a].Mode) }

func (w *world) po(a, b int) bool {
	return a < b && a >= w.Cells && w.Events[a].Thread == w.Events[b].Thread
}

func (w *world) loc(a, b int) bool {
	return w.Events[a].Loc == w.Events[b].Loc && !w.kind(a, api.Fence)
}

func (w *world) rf(a, b int) bool { return slices.Contains(w.Rf, api.Pair{A: a, B: b}) }

func (w *world) co(a, b int) bool {
	return w.kind(a, api.Write) && w.kind(b, api.Write) && w.loc(a, b) && w.place[a] < w.place[b]
}

func (w *world) fr(a, b int) bool {
	return w.any(func(x int) bool { return w.rf(x, a) && w.co(x, b) })
}

func (w *world) rmw(a, b int) bool { return slices.Contains(w.Rmw, api.Pair{A: a, B: b}) }

// rs goes back from b: pair by pair, until a write of the thread and the cell of a is met.
func (w *world) rs(a, b int) bool {
	if !w.kind(a, api.Write) || !w.kind(b, api.Write) {
		return false
	}
	seen := map[int]int{}
	for at := b; seen[at] == 0; {
		seen[at] = 1
		if at == a || w.po(a, at) && w.loc(a, at) {
			return true
		}
		for _, p := range w.Rmw {
			if p.B == at {
				at = w.Rf[slices.IndexFunc(w.Rf, func(q api.Pair) bool { return q.B == p.A })].A
				break
			}
		}
	}
	return false
}

func (w *world) sw(a, b int) bool {
	if w.kind(a, api.Read) || !w.mode(a, R, B, S) || w.kind(b, api.Write) || !w.mode(b, A, B, S) {
		return false
	}
	return w.any(func(head int) bool {
		if head != a && !(w.kind(a, api.Fence) && w.po(a, head)) {
			return false
		}
		return w.any(func(last int) bool {
			return w.rss[head][last] && w.any(func(r int) bool {
				return w.rf(last, r) && (r == b || w.po(r, b) && w.kind(b, api.Fence))
			})
		})
	})
}

func (w *world) scb(a, b int) bool {
	if w.po(a, b) || w.co(a, b) || w.fr(a, b) || w.hbs[a][b] && w.loc(a, b) {
		return true
	}
	return w.any(func(x int) bool {
		return w.po(a, x) && !w.loc(a, x) && w.any(func(y int) bool { return w.hbs[x][y] && w.po(y, b) && !w.loc(y, b) })
	})
}

func (w *world) isSc(a int) bool { return w.mode(a, S) }

func (w *world) scFence(a int) bool { return w.isSc(a) && w.kind(a, api.Fence) }

func (w *world) pscBase(a, b int) bool {
	if !w.isSc(a) || !w.isSc(b) {
		return false
	}
	return w.any(func(x int) bool {
		return (x == a || w.scFence(a) && w.hbs[a][x]) && w.any(func(y int) bool {
			return w.scs[x][y] && (y == b || w.scFence(b) && w.hbs[y][b])
		})
	})
}

func (w *world) pscF(a, b int) bool {
	return w.scFence(a) && w.scFence(b) && (w.hbs[a][b] || w.any(func(x int) bool {
		return w.hbs[a][x] && w.any(func(y int) bool { return w.ecos[x][y] && w.hbs[y][b] })
	}))
}

// rel is a relation by its pairs.
func (w *world) rel(holds func(a, b int) bool) *rel.Rel {
	out := rel.New(w.n)
	for a := range w.n {
		for b := range w.n {
			out.Put(a, b, holds(a, b))
		}
	}
	return out
}

func (w *world) relations() []*rel.Rel {
	of := func(l [][]bool) *rel.Rel { return w.rel(func(a, b int) bool { return l[a][b] }) }
	return []*rel.Rel{of(w.rss), of(w.sws), of(w.hbs), of(w.ecos), of(w.scs), w.rel(w.pscBase), w.rel(w.pscF)}
}

// broken are the axioms that a graph breaks, and by which events.
func (w *world) broken() map[int][]int {
	out := map[int][]int{}
	for a := w.n - 1; a >= 0; a-- {
		for b := w.n - 1; b >= 0; b-- {
			if w.hbs[a][b] && w.ecos[b][a] {
				out[rc11.Coherence] = []int{a, b}
			}
		}
		if w.hbs[a][a] {
			out[rc11.Coherence] = []int{a}
		}
	}
	for i := len(w.Rmw) - 1; i >= 0; i-- {
		p := w.Rmw[i]
		if w.any(func(x int) bool { return w.fr(p.A, x) && w.co(x, p.B) }) {
			out[rc11.Atomicity] = []int{p.A, p.B}
		}
	}
	if l := rel.Cycle(w.rel(func(a, b int) bool { return w.pscBase(a, b) || w.pscF(a, b) })); len(l) > 0 {
		out[rc11.Sequential] = l
	}
	if l := rel.Cycle(w.rel(func(a, b int) bool { return w.po(a, b) || w.rf(a, b) })); len(l) > 0 {
		out[rc11.ThinAir] = l
	}
	return out
}

// first is what Check tells of these.
func first(broken map[int][]int) (axiom int, by []int) {
	for axiom = 1; axiom <= 4; axiom++ {
		if by = broken[axiom]; len(by) > 0 {
			return axiom, by
		}
	}
	return 0, nil
}

// holdModel holds both calls of a graph against the document's words.
func holdModel(t *testing.T, what string, g api.Graph) (broken map[int][]int) {
	t.Helper()
	w := worldOf(g)
	f := derived(t, g)
	for i, r := range w.relations() {
		if got := relations(f)[i]; !rel.Equal(got, r) {
			t.Fatalf("P10.1: %s: %s is %v; want %v: %+v", what, relationNames[i], got.Pairs(), r.Pairs(), g)
		}
	}
	broken = w.broken()
	axiom, by := first(broken)
	holdCheck(t, what, g, axiom, by...)
	return broken
}
