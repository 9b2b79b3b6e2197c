// Package rel: relations over points: see DOC.md, chapter 1.
package rel

import (
	"slices"

	"sextant/api"
)

// Rel is a relation over the points 0 to n - 1.
type Rel struct {
	rows []row // a point's row: the points that it is in a pair with; no row has a bit that is no point, so that Size may count bits
}

// New makes one without pairs.
func New(n int) *Rel {
	return &Rel{rows: make([]row, max(0, min(n, api.MaxPoints)))}
}

// Of makes one of pairs.
func Of(n int, l []api.Pair) *Rel {
	out := New(n)
	for _, p := range l {
		out.Put(p.A, p.B, true)
	}
	return out
}

// Ident makes the one of all (a, a), a in a set.
func Ident(n int, set []bool) *Rel {
	out := New(n)
	for p := range rowOf(out.Len(), set).points() {
		out.Put(p, p, true)
	}
	return out
}

// Len tells how many points there are.
func (r *Rel) Len() int { return len(r.rows) }

// Size tells how many pairs there are.
func (r *Rel) Size() int {
	n := 0
	for _, w := range r.rows {
		n += w.count()
	}
	return n
}

// Has tells whether a pair is in it.
func (r *Rel) Has(a, b int) bool {
	return r.isPoint(a) && r.isPoint(b) && r.rows[a].has(b)
}

// Put puts a pair in, or takes it out, and tells whether that changed it.
func (r *Rel) Put(a, b int, in bool) bool {
	if !r.isPoint(a) || !r.isPoint(b) || r.rows[a].has(b) == in {
		return false
	}
	r.rows[a] = r.rows[a].with(b, in)
	return true
}

// Pairs tells all pairs, rising.
func (r *Rel) Pairs() []api.Pair {
	var out []api.Pair
	for a, w := range r.rows {
		for b := range w.points() {
			out = append(out, api.Pair{A: a, B: b})
		}
	}
	return out
}

// Copy makes another one, alike.
func (r *Rel) Copy() *Rel { return Union(r) }

// Equal tells whether two have the same points and pairs.
func Equal(a, b *Rel) bool { return slices.Equal(a.rows, b.rows) }

// Within tells whether each pair of a is one of b's.
func Within(a, b *Rel) bool { return Minus(a, b).Size() == 0 }

func (r *Rel) isPoint(p int) bool { return p >= 0 && p < len(r.rows) }

// rowAt takes the points of a greater relation too, as two relations may have unlike numbers of points: nothing follows those.
func (r *Rel) rowAt(p int) row {
	if p < len(r.rows) {
		return r.rows[p]
	}
	return row{}
}

func (r *Rel) step(from row) row {
	var out row
	for p := range from.points() {
		out = join(out, r.rowAt(p))
	}
	return out
}
