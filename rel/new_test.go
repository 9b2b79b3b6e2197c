package rel_test

import (
	"math"
	"slices"
	"testing"

	"sextant/rel"
)

// makers are the calls that make a relation of relations.
func makers() map[string]func(a, b *rel.Rel) *rel.Rel {
	return map[string]func(a, b *rel.Rel) *rel.Rel{
		"Copy":         func(a, b *rel.Rel) *rel.Rel { return a.Copy() },
		"Union of one": func(a, b *rel.Rel) *rel.Rel { return rel.Union(a) },
		"Union":        func(a, b *rel.Rel) *rel.Rel { return rel.Union(a, b) },
		"Inter":        rel.Inter,
		"Minus":        rel.Minus,
		"Comp":         rel.Comp,
		"Inverse":      func(a, b *rel.Rel) *rel.Rel { return rel.Inverse(a) },
		"Cut":          func(a, b *rel.Rel) *rel.Rel { return rel.Cut(a, set(256, 1, 0), set(256, 1, 0)) },
		"Plus":         func(a, b *rel.Rel) *rel.Rel { return rel.Plus(a) },
		"Star":         func(a, b *rel.Rel) *rel.Rel { return rel.Star(a) },
		"Opt":          func(a, b *rel.Rel) *rel.Rel { return rel.Opt(a) },
	}
}

func TestP1_9RelationsHaveNothingInCommon(t *testing.T) {
	for what, call := range makers() {
		for _, a := range append(small(), wide()[1], wide()[4]) {
			for _, b := range []*rel.Rel{a, rel.New(0), example(), rel.Plus(a)} {
				a0, b0 := rel.Of(a.Len(), a.Pairs()), rel.Of(b.Len(), b.Pairs())
				got, again := call(a, b), call(a, b)
				turn(got)
				if !rel.Equal(a, a0) || !rel.Equal(b, b0) {
					t.Fatalf("P1.9: %s, or a change of its answer, changed what it was made of", what)
				}
				if !rel.Equal(again, call(a0, b0)) {
					t.Fatalf("P1.9: a change of one answer of %s changed another one", what)
				}
				c, d := a.Copy(), b.Copy()
				got = call(c, d)
				turn(c)
				turn(d)
				if !rel.Equal(got, again) {
					t.Fatalf("P1.9: a change of what %s was given changed its answer", what)
				}
			}
		}
	}
}

func TestP1_9ListsAreNotKept(t *testing.T) {
	l := pairs(0, 1, 1, 2, 9, 9)
	r := rel.Of(3, l[:2])
	s := []bool{true, false, true, true}
	id := rel.Ident(3, s[:3])
	rows, cols := []bool{true, true, true, true}, []bool{false, true, true, true}
	cut := rel.Cut(r, rows[:2], cols[:3])
	many := []*rel.Rel{r, id, cut}
	un := rel.Union(many[:2]...)
	rel.Image(r, s[:2])
	if !slices.Equal(l, pairs(0, 1, 1, 2, 9, 9)) || !slices.Equal(s, []bool{true, false, true, true}) || many[0] != r || many[1] != id || many[2] != cut ||
		!slices.Equal(rows, []bool{true, true, true, true}) || !slices.Equal(cols, []bool{false, true, true, true}) {
		t.Errorf("P1.9: a list that was handed in was changed")
	}
	clear(l)
	clear(s)
	clear(rows)
	clear(cols)
	clear(many)
	is(t, "P1.9: Of, its list cleared", r, 3, 0, 1, 1, 2)
	is(t, "P1.9: Ident, its set cleared", id, 3, 0, 0, 2, 2)
	is(t, "P1.9: Cut, its sets cleared", cut, 3, 0, 1, 1, 2)
	is(t, "P1.9: Union, its list cleared", un, 3, 0, 0, 0, 1, 1, 2, 2, 2)
}

func TestP1_9ListsAreNew(t *testing.T) {
	r := example()
	p, i, c := r.Pairs(), rel.Image(r, set(4, 1, 0)), rel.Cycle(r)
	clear(p[:cap(p)])
	clear(i[:cap(i)])
	clear(c[:cap(c)])
	is(t, "P1.9: the relation", r, 4, 0, 1, 1, 2, 2, 0, 2, 3)
	if !slices.Equal(rel.Image(r, set(4, 1, 0)), []bool{true, true, true, true}) || !slices.Equal(rel.Cycle(r), []int{0, 1, 2}) {
		t.Errorf("P1.9: a change of a list that was answered changed a later answer")
	}
}

func TestP1_9NoCallChangesOrPanics(t *testing.T) {
	full := rel.New(256)
	turn(full)
	for _, a := range []*rel.Rel{rel.New(0), rel.New(1), rel.New(256), full, example()} {
		had := rel.Of(a.Len(), a.Pairs())
		for _, b := range []*rel.Rel{rel.New(0), full, example(), a} {
			for _, call := range makers() {
				call(a, b)
			}
			rel.Equal(a, b)
			rel.Within(a, b)
		}
		for _, s := range sets() {
			rel.Image(a, s)
			rel.Cut(a, s, nil)
			rel.Cut(a, nil, s)
		}
		rel.Irreflexive(a)
		rel.Acyclic(a)
		rel.Cycle(a)
		a.Has(math.MinInt, math.MaxInt)
		a.Put(math.MaxInt, math.MinInt, true)
		if !rel.Equal(a, had) {
			t.Errorf("P1.9: the relation of %d points was changed", a.Len())
		}
	}
}
