package order_test

import (
	"math"
	"slices"
	"testing"

	"sextant/api"
	"sextant/order"
	"sextant/rel"
)

func TestP2_6Orders(t *testing.T) {
	for _, r := range append(append(some(), chains()...), example(), round(), rel.New(0)) {
		first, e := order.Sort(r)
		if (e == api.OK) != rel.Acyclic(r) {
			t.Fatalf("P2.6: Sort of %v: %d", r.Pairs(), e)
		}
		l, whole := order.Extensions(r, 100)
		if (len(l) > 0) != (e == api.OK) || len(l) > 0 && !slices.Equal(l[0], first) || len(l) < 100 && !whole {
			t.Fatalf("P2.6: Extensions of %v: %v, %v", r.Pairs(), l, whole)
		}
		for i, o := range l {
			if !order.Linear(r, o) || i > 0 && slices.Compare(l[i-1], o) >= 0 {
				t.Fatalf("P2.6: Extensions of %v: %v", r.Pairs(), o)
			}
		}
		for _, none := range [][]api.Pair{nil, {}} {
			if g, ge := order.Glue(r, none); ge != e || !slices.Equal(g, first) {
				t.Fatalf("P2.6: Glue of %v and no pairs: %v, %d; Sort: %v, %d", r.Pairs(), g, ge, first, e)
			}
		}
	}
}

func TestP2_6Glue(t *testing.T) {
	for _, r := range append(some(), chains()...) {
		l, whole := order.Extensions(r, 720)
		for i := range r.Len() - 1 {
			glue := pairs(i, i+1)
			if len(l) > 0 {
				glue = pairs(l[0][i], l[0][i+1]) // next to one another in one order at least
			}
			g, e := order.Glue(r, glue)
			if (len(l) > 0) != (e == api.OK) || e == api.OK && (!order.Linear(r, g) || !together(g, glue)) {
				t.Fatalf("P2.6: Glue of %v and %v: %v, %d", r.Pairs(), glue, g, e)
			}
			if whole && len(l) > 0 && !slices.ContainsFunc(l, func(o []int) bool { return slices.Equal(o, g) }) {
				t.Fatalf("P2.6: Extensions of %v have not %v", r.Pairs(), g)
			}
		}
	}
}

func TestP2_6Parts(t *testing.T) {
	for _, r := range append(append(append(few(), some()...), chains()...), example()) {
		l, e := order.Sort(r)
		if e != api.OK {
			continue
		}
		var ones [][]int
		for _, p := range l {
			ones = append(ones, []int{p})
		}
		if c := order.Components(r); !same(c, ones) {
			t.Fatalf("P2.6: Components of the acyclic %v: %v; Sort: %v", r.Pairs(), c, l)
		}
		once, _ := order.Reduction(r)
		twice, e := order.Reduction(once)
		if e != api.OK || !rel.Equal(once, twice) {
			t.Fatalf("P2.6: Reduction of the Reduction of %v: %d", r.Pairs(), e)
		}
	}
}

// callAll makes every call, and tells all that is answered.
func callAll(r *rel.Rel, l []int, most int, glue []api.Pair) ([][]int, *rel.Rel) {
	order.Linear(r, l)
	sorted, _ := order.Sort(r)
	out, _ := order.Extensions(r, most)
	out = append(out, order.Components(r)...)
	reduced, _ := order.Reduction(r)
	glued, _ := order.Glue(r, glue)
	return append(out, sorted, glued), reduced
}

func TestP2_7NothingIsChanged(t *testing.T) {
	for _, r := range append(some(), example(), round(), rel.New(0), chains()[0]) {
		had := r.Copy()
		l, lHad := []int{3, 2, 1, 0, 7, 7}, []int{3, 2, 1, 0, 7, 7}
		glue, glueHad := pairs(2, 3, 1, 0, 8, 8, 9, 9), pairs(2, 3, 1, 0, 8, 8, 9, 9)
		for n := range len(glue) {
			callAll(r, l[:n+1], 4, glue[:n])
		}
		if !rel.Equal(r, had) || !slices.Equal(l, lHad) || !slices.Equal(glue, glueHad) {
			t.Fatalf("P2.7: a call of %v changed what was handed in", had.Pairs())
		}
	}
}

func TestP2_7AnswersAreNew(t *testing.T) {
	for _, r := range append(some(), example(), round(), chains()[0]) {
		had, glue := r.Copy(), pairs(0, 1)
		l, reduced := callAll(r, []int{0, 1, 2, 3}, 5, glue)
		want, wantReduced := callAll(had, []int{0, 1, 2, 3}, 5, glue)
		for i := range l {
			if !slices.Equal(l[i], want[i]) {
				t.Fatalf("P2.7: two calls of %v: %v, %v", had.Pairs(), l[i], want[i])
			}
			room := l[i][:cap(l[i])]
			for j := range room {
				room[j] = -5
			}
		}
		if reduced != nil {
			reduced.Put(0, 1, !reduced.Has(0, 1))
		}
		again, againReduced := callAll(r, []int{0, 1, 2, 3}, 5, glue)
		if !rel.Equal(r, had) || !same(again, want) || (againReduced == nil) != (wantReduced == nil) || againReduced != nil && !rel.Equal(againReduced, wantReduced) {
			t.Fatalf("P2.7: a change of what was answered of %v changed something", had.Pairs())
		}
		r.Put(0, 1, !r.Has(0, 1))
		if !same(again, want) || againReduced != nil && !rel.Equal(againReduced, wantReduced) {
			t.Fatalf("P2.7: a change of %v changed what had been answered", had.Pairs())
		}
	}
}

func TestP2_7NoCallPanics(t *testing.T) {
	full := rel.New(256)
	for p := range 256 {
		for q := range 256 {
			full.Put(p, q, true)
		}
	}
	odd := [][]int{nil, {-1}, {256}, {math.MinInt, math.MaxInt}, make([]int, 256), make([]int, 257)}
	for _, r := range []*rel.Rel{rel.New(-1), rel.New(0), rel.New(1), rel.New(2), rel.New(256), rel.New(300), full, example(), round()} {
		for _, l := range odd {
			for _, most := range []int{math.MinInt, -1, 0, 1, 2} {
				callAll(r, l, most, pairs(l...))
				callAll(r, l, most, pairs(append(l, 0, 1, 2, 0, 255, 254)...))
			}
		}
	}
}
