package rel_test

import (
	"slices"
	"testing"

	"sextant/api"
	"sextant/rel"
)

func TestP1_3OfTwo(t *testing.T) {
	both(func(a, b *rel.Rel) {
		n := max(a.Len(), b.Len())
		agrees(t, "P1.3: Union", rel.Union(a, b), n, func(p, q int) bool { return a.Has(p, q) || b.Has(p, q) })
		agrees(t, "P1.3: Inter", rel.Inter(a, b), n, func(p, q int) bool { return a.Has(p, q) && b.Has(p, q) })
		agrees(t, "P1.3: Minus", rel.Minus(a, b), n, func(p, q int) bool { return a.Has(p, q) && !b.Has(p, q) })
	})
}

func TestP1_3Comp(t *testing.T) {
	both(func(a, b *rel.Rel) {
		n := max(a.Len(), b.Len())
		agrees(t, "P1.3: Comp", rel.Comp(a, b), n, func(p, r int) bool {
			for q := range n {
				if a.Has(p, q) && b.Has(q, r) {
					return true
				}
			}
			return false
		})
	})
}

func TestP1_3UnionOfMany(t *testing.T) {
	is(t, "P1.3: Union of none", rel.Union(), 0)
	is(t, "P1.3: Union of an empty list", rel.Union([]*rel.Rel{}...), 0)
	is(t, "P1.3: Union of one", rel.Union(example()), 4, 0, 1, 1, 2, 2, 0, 2, 3)
	l := wide()
	agrees(t, "P1.3: Union of five", rel.Union(l...), 256, func(p, q int) bool {
		return slices.ContainsFunc(l, func(r *rel.Rel) bool { return r.Has(p, q) })
	})
	is(t, "P1.3: Union of one twice, the greatest not last", rel.Union(rel.New(2), rel.New(7), example(), example()), 7, 0, 1, 1, 2, 2, 0, 2, 3)
}

func TestP1_3Inverse(t *testing.T) {
	for _, a := range append(small(), wide()...) {
		agrees(t, "P1.3: Inverse", rel.Inverse(a), a.Len(), func(p, q int) bool { return a.Has(q, p) })
	}
}

func TestP1_3Cut(t *testing.T) {
	for _, a := range append(wide(), rel.New(0), example()) {
		for _, rows := range sets() {
			for _, cols := range sets() {
				agrees(t, "P1.3: Cut", rel.Cut(a, rows, cols), a.Len(), func(p, q int) bool { return a.Has(p, q) && in(rows, p) && in(cols, q) })
			}
		}
	}
}

// reached tells the points to which one step or more leads, by going there.
func reached(a *rel.Rel, from int) []bool {
	out := make([]bool, a.Len())
	work := []int{from}
	for len(work) > 0 {
		p := work[0]
		work = work[1:]
		for q := range a.Len() {
			if a.Has(p, q) && !out[q] {
				out[q] = true
				work = append(work, q)
			}
		}
	}
	return out
}

func TestP1_4Closures(t *testing.T) {
	l := append(small(), wide()...)
	for bits := range 1 << 9 {
		l = append(l, every(3, bits))
	}
	l = append(l, scattered(256, 250, 11), scattered(256, 400, 12), scattered(100, 100, 13))
	for _, a := range l {
		n := a.Len()
		far := make([][]bool, n)
		for p := range n {
			far[p] = reached(a, p)
		}
		agrees(t, "P1.4: Plus", rel.Plus(a), n, func(p, q int) bool { return far[p][q] })
		agrees(t, "P1.4: Star", rel.Star(a), n, func(p, q int) bool { return p == q || far[p][q] })
		agrees(t, "P1.4: Opt", rel.Opt(a), n, func(p, q int) bool { return p == q || a.Has(p, q) })
	}
}

func TestP1_4FullLength(t *testing.T) {
	// The way from 0 goes through the points from the last to the first, so that a closure that goes through them once, in their order, without care would miss steps.
	const n = api.MaxPoints
	r := rel.Of(n, pairs(0, n-1))
	for p := n - 1; p > 1; p-- {
		r.Put(p, p-1, true)
	}
	agrees(t, "P1.4: Plus of a falling chain", rel.Plus(r), n, func(p, q int) bool { return q > 0 && (p == 0 || p > q) })
}

func TestP1_5Image(t *testing.T) {
	for _, a := range append(small(), wide()...) {
		for _, s := range sets() {
			got := rel.Image(a, s)
			want := make([]bool, a.Len())
			for _, p := range a.Pairs() {
				want[p.B] = want[p.B] || in(s, p.A)
			}
			if !slices.Equal(got, want) {
				t.Fatalf("P1.5: Image of %v by %v: %v, want %v", s, a.Pairs(), got, want)
			}
		}
	}
}
