package rel_test

import (
	"slices"
	"testing"

	"sextant/api"
	"sextant/rel"
)

func TestP1_7EqualAndWithin(t *testing.T) {
	both(func(a, b *rel.Rel) {
		l, m := a.Pairs(), b.Pairs()
		within := !slices.ContainsFunc(l, func(p api.Pair) bool { return !slices.Contains(m, p) })
		if rel.Within(a, b) != within || rel.Equal(a, b) != (a.Len() == b.Len() && slices.Equal(l, m)) {
			t.Fatalf("P1.7: of %d points %v and of %d points %v", a.Len(), l, b.Len(), m)
		}
	})
	a := rel.Of(256, pairs(0, 1, 255, 255))
	b := a.Copy()
	if !rel.Equal(a, b) || !rel.Within(a, b) {
		t.Errorf("P1.7: a copy")
	}
	b.Put(255, 255, false)
	if rel.Equal(a, b) || rel.Within(a, b) || !rel.Within(b, a) {
		t.Errorf("P1.7: a copy without its last pair")
	}
	if rel.Within(rel.Of(3, pairs(2, 2)), rel.New(2)) || rel.Within(rel.Of(3, pairs(0, 2)), rel.Of(2, pairs(0, 1))) || !rel.Within(rel.Of(9, pairs(0, 1)), rel.Of(2, pairs(0, 1))) {
		t.Errorf("P1.7: Within of unlike numbers of points")
	}
}

func TestP1_8ClosureLaws(t *testing.T) {
	for _, a := range append(small(), wide()...) {
		plus := rel.Plus(a)
		if !rel.Within(rel.Comp(plus, plus), plus) || !rel.Equal(rel.Plus(plus), plus) {
			t.Fatalf("P1.8: Plus of %v is not transitive", a.Pairs())
		}
		if !rel.Equal(plus, rel.Union(a, rel.Comp(a, plus))) {
			t.Fatalf("P1.8: Plus of %v is not a, or a and then Plus", a.Pairs())
		}
		c := rel.Cycle(a)
		for i, p := range c {
			if !a.Has(p, c[(i+1)%len(c)]) {
				t.Fatalf("P1.8: Cycle of %v: %v", a.Pairs(), c)
			}
		}
	}
}

func TestP1_8CompLaws(t *testing.T) {
	both(func(a, b *rel.Rel) {
		ab := rel.Comp(a, b)
		if !rel.Equal(rel.Inverse(ab), rel.Comp(rel.Inverse(b), rel.Inverse(a))) {
			t.Fatalf("P1.8: Inverse of the Comp of %v and %v", a.Pairs(), b.Pairs())
		}
		for _, c := range []*rel.Rel{a, rel.Inverse(b), example(), rel.New(0)} {
			if !rel.Equal(rel.Comp(ab, c), rel.Comp(a, rel.Comp(b, c))) {
				t.Fatalf("P1.8: Comp of %v, %v and %v", a.Pairs(), b.Pairs(), c.Pairs())
			}
		}
		if rel.Within(a, b) && rel.Acyclic(b) && !rel.Acyclic(a) {
			t.Fatalf("P1.8: %v within the acyclic %v", a.Pairs(), b.Pairs())
		}
	})
}
