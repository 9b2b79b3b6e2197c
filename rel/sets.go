package rel

// Union makes the one of all pairs that one of some has.
func Union(l ...*Rel) *Rel {
	n := 0
	for _, r := range l {
		n = max(n, r.Len())
	}
	out := New(n)
	for _, r := range l {
		for p, w := range r.rows {
			out.rows[p] = join(out.rows[p], w)
		}
	}
	return out
}

// Inter makes the one of all pairs that both have.
func Inter(a, b *Rel) *Rel { return byRows(a, b, meet) }

// Minus makes the one of all pairs of a that b has not.
func Minus(a, b *Rel) *Rel { return byRows(a, b, without) }

// Comp makes the one of all pairs that a step of a and then one of b makes.
func Comp(a, b *Rel) *Rel {
	out := New(max(a.Len(), b.Len()))
	for p, w := range a.rows {
		out.rows[p] = b.step(w)
	}
	return out
}

// Inverse makes the one of all pairs turned.
func Inverse(a *Rel) *Rel {
	out := New(a.Len())
	for p, w := range a.rows {
		for q := range w.points() {
			out.Put(q, p, true)
		}
	}
	return out
}

// Cut makes the one of all pairs whose ends are in two sets.
func Cut(a *Rel, rows, cols []bool) *Rel {
	out := New(a.Len())
	ends := rowOf(a.Len(), cols)
	for p := range rowOf(a.Len(), rows).points() {
		out.rows[p] = meet(a.rows[p], ends)
	}
	return out
}

// Plus makes the closure.
func Plus(a *Rel) *Rel {
	out := a.Copy()
	// Warshall's way: when via has had its turn, all ways through the points up to via are steps.
	for via := range out.rows {
		for p := range out.rows {
			if out.rows[p].has(via) {
				out.rows[p] = join(out.rows[p], out.rows[via])
			}
		}
	}
	return out
}

// Star makes the closure, and all (p, p).
func Star(a *Rel) *Rel { return Opt(Plus(a)) }

// Opt makes a, and all (p, p).
func Opt(a *Rel) *Rel {
	out := a.Copy()
	for p := range out.rows {
		out.Put(p, p, true)
	}
	return out
}

// Image tells to which points a step from a set leads.
func Image(a *Rel, set []bool) []bool {
	out := make([]bool, a.Len())
	for q := range a.step(rowOf(a.Len(), set)).points() {
		out[q] = true
	}
	return out
}

func byRows(a, b *Rel, of func(x, y row) row) *Rel {
	out := New(max(a.Len(), b.Len()))
	for p := range out.rows {
		out.rows[p] = of(a.rowAt(p), b.rowAt(p))
	}
	return out
}
