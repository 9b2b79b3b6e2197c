package rel_test

import (
	"math"
	"slices"
	"testing"

	"sextant/rel"
)

// TestExamples is the chapter's table.
func TestExamples(t *testing.T) {
	r := example()
	is(t, "Of", r, 4, 0, 1, 1, 2, 2, 0, 2, 3)
	if !r.Has(2, 0) || r.Has(9, 1) {
		t.Errorf("Has")
	}
	if r.Put(0, 1, true) || r.Put(3, 4, true) || !r.Put(3, 3, true) || !r.Put(3, 3, false) {
		t.Errorf("Put")
	}
	if c := rel.Cycle(r); !slices.Equal(c, []int{0, 1, 2}) || rel.Acyclic(r) || !rel.Irreflexive(r) {
		t.Errorf("Cycle %v, Acyclic %v, Irreflexive %v", c, rel.Acyclic(r), rel.Irreflexive(r))
	}
	if rel.Plus(r).Size() != 12 || rel.Opt(r).Size() != 8 {
		t.Errorf("Plus %v, Opt %v", rel.Plus(r).Pairs(), rel.Opt(r).Pairs())
	}
	is(t, "Star", rel.Star(rel.New(3)), 3, 0, 0, 1, 1, 2, 2)
	is(t, "Comp", rel.Comp(r, r), 4, 0, 2, 1, 0, 1, 3, 2, 1)
	is(t, "Inverse", rel.Inverse(r), 4, 0, 2, 1, 0, 2, 1, 3, 2)
	is(t, "Cut", rel.Cut(r, []bool{true, false, true}, []bool{false, true, true, true}), 4, 0, 1, 2, 3)
	if l := rel.Image(r, []bool{false, false, true}); !slices.Equal(l, []bool{true, false, false, true}) {
		t.Errorf("Image %v", l)
	}
	if l := rel.Image(r, nil); !slices.Equal(l, make([]bool, 4)) {
		t.Errorf("Image of nothing %v", l)
	}
	is(t, "Union", rel.Union(), 0)
	is(t, "Union", rel.Union(rel.New(2), r), 4, 0, 1, 1, 2, 2, 0, 2, 3)
	is(t, "Inter", rel.Inter(rel.New(2), r), 4)
	is(t, "Minus", rel.Minus(r, rel.New(9)), 9, 0, 1, 1, 2, 2, 0, 2, 3)
	is(t, "New", rel.New(-3), 0)
	is(t, "New", rel.New(1000), 256)
	is(t, "Ident", rel.Ident(3, []bool{true, false, true, true}), 3, 0, 0, 2, 2)
	if rel.Equal(rel.New(2), rel.New(3)) || !rel.Within(rel.New(3), rel.New(2)) {
		t.Errorf("Equal, Within")
	}
}

func TestP1_1Points(t *testing.T) {
	for _, c := range [][2]int{{0, 0}, {1, 1}, {64, 64}, {255, 255}, {256, 256}, {257, 256}, {-1, 0}, {-256, 0}, {math.MaxInt, 256}, {math.MinInt, 0}} {
		n, want := c[0], c[1]
		is(t, "P1.1: New", rel.New(n), want)
		is(t, "P1.1: Of without pairs", rel.Of(n, nil), want)
		is(t, "P1.1: Ident of nothing", rel.Ident(n, nil), want)
		agrees(t, "P1.1: Ident of all", rel.Ident(n, set(300, 1, 0)), want, func(p, q int) bool { return p == q })
	}
}

func TestP1_1Of(t *testing.T) {
	wrong := pairs(-1, 0, 0, -1, 3, 0, 0, 3, 3, 3, -1, -1, 256, 0, 0, 256, math.MinInt, 1, 1, math.MaxInt, 64, 1, 1, 64, 2, -64)
	is(t, "P1.1: Of wrong pairs", rel.Of(3, wrong), 3)
	is(t, "P1.1: Of no points", rel.Of(0, pairs(0, 0)), 0)
	is(t, "P1.1: Of less than none", rel.Of(-5, pairs(0, 0, -1, -1)), 0)
	is(t, "P1.1: Of one past the limit", rel.Of(257, pairs(255, 255, 256, 256, 0, 256, 256, 0)), 256, 255, 255)
	is(t, "P1.1: Of pairs out of order, one twice", rel.Of(3, append(pairs(2, 1, 0, 2, 2, 1, 0, 0), wrong...)), 3, 0, 0, 0, 2, 2, 1)
}

func TestP1_1Ident(t *testing.T) {
	for _, n := range []int{0, 1, 3, 64, 65, 256} {
		for _, s := range sets() {
			agrees(t, "P1.1: Ident", rel.Ident(n, s), n, func(p, q int) bool { return p == q && in(s, p) })
		}
	}
}

func TestP1_1Copy(t *testing.T) {
	for _, r := range append(small(), wide()...) {
		agrees(t, "P1.1: Copy", r.Copy(), r.Len(), r.Has)
	}
}

func TestP1_2PutAndHas(t *testing.T) {
	ends := []int{math.MinInt, -64, -1, 0, 1, 62, 63, 64, 65, 127, 128, 191, 192, 199, 200, 255, 256, math.MaxInt}
	const n = 200
	point := func(p int) bool { return p >= 0 && p < n }
	for _, a := range ends {
		for _, b := range ends {
			r := rel.New(n)
			may := point(a) && point(b)
			if r.Put(a, b, false) || r.Put(a, b, true) != may || r.Has(a, b) != may || r.Put(a, b, true) {
				t.Errorf("P1.2: putting (%d, %d) in", a, b)
			}
			agrees(t, "P1.2: with one pair", r, n, func(p, q int) bool { return p == a && q == b })
			if r.Put(a, b, false) != may || r.Has(a, b) || r.Put(a, b, false) {
				t.Errorf("P1.2: taking (%d, %d) out", a, b)
			}
			is(t, "P1.2: without it", r, n)
		}
	}
}

func TestP1_2PutKeepsOthers(t *testing.T) {
	for _, r := range wide() {
		had := r.Copy()
		for i := range r.Len() {
			a, b := i, (i*37+5)%r.Len()
			was := r.Has(a, b)
			if !r.Put(a, b, !was) {
				t.Fatalf("P1.2: Put(%d, %d) changed nothing", a, b)
			}
			agrees(t, "P1.2: one pair turned", r, had.Len(), func(p, q int) bool { return had.Has(p, q) != (p == a && q == b) })
			r.Put(a, b, was)
			if i > 10 {
				break
			}
		}
	}
}

func TestP1_2Pairs(t *testing.T) {
	if l := rel.New(0).Pairs(); len(l) != 0 {
		t.Errorf("P1.2: pairs of no points: %v", l)
	}
	r := rel.Of(256, pairs(255, 0, 0, 255, 64, 63, 64, 64, 63, 128, 63, 127))
	is(t, "P1.2: Pairs rise", r, 256, 0, 255, 63, 127, 63, 128, 64, 63, 64, 64, 255, 0)
	full := rel.New(256)
	turn(full)
	agrees(t, "P1.2: all pairs", full, 256, func(p, q int) bool { return true })
}
