package rel_test

import (
	"slices"
	"testing"

	"sextant/api"
	"sextant/rel"
)

func TestP1_6Irreflexive(t *testing.T) {
	for _, n := range []int{1, 64, 65, 128, 256} {
		for p := range n {
			r := rel.Of(n, pairs(p, p))
			if rel.Irreflexive(r) || rel.Acyclic(r) || !slices.Equal(rel.Cycle(r), []int{p}) {
				t.Errorf("P1.6: of %d points (%d, %d)", n, p, p)
			}
		}
	}
	for _, r := range []*rel.Rel{rel.New(0), rel.New(256), rel.Of(2, pairs(0, 1, 1, 0))} {
		if !rel.Irreflexive(r) {
			t.Errorf("P1.6: Irreflexive of %v", r.Pairs())
		}
	}
}

// leastCycle tries all lists, the shorter ones first, and of one length from the least on; nil if there is none.
func leastCycle(a *rel.Rel) []int {
	for start := range a.Len() {
		for length := 1; length <= a.Len(); length++ {
			if l := closing(a, []int{start}, length); l != nil {
				return l
			}
		}
	}
	return nil
}

func closing(a *rel.Rel, l []int, length int) []int {
	last := l[len(l)-1]
	if len(l) == length {
		if a.Has(last, l[0]) {
			return l
		}
		return nil
	}
	for q := range a.Len() {
		if a.Has(last, q) {
			if c := closing(a, append(slices.Clone(l), q), length); c != nil {
				return c
			}
		}
	}
	return nil
}

func TestP1_6Cycle(t *testing.T) {
	l := small()
	for bits := range 1 << 9 {
		l = append(l, every(3, bits))
	}
	for bits := range 1 << 16 {
		l = append(l, every(4, bits))
	}
	for seed := range 2000 {
		l = append(l, scattered(5+seed%3, 4+seed%4, uint64(seed)))
	}
	for _, a := range l {
		want := leastCycle(a)
		if got := rel.Cycle(a); !slices.Equal(got, want) || rel.Acyclic(a) != (want == nil) {
			t.Fatalf("P1.6: Cycle of %v: %v, Acyclic %v; want %v", a.Pairs(), got, rel.Acyclic(a), want)
		}
	}
}

func TestP1_6CycleAfar(t *testing.T) {
	for _, c := range []struct {
		n    int
		l    []api.Pair
		want []int
	}{
		{256, pairs(255, 64, 64, 63, 63, 255), []int{63, 255, 64}},
		{256, pairs(0, 1, 1, 2, 2, 3, 3, 1, 200, 200), []int{1, 2, 3}},
		{256, pairs(5, 200, 5, 70, 70, 130, 200, 129, 129, 5, 130, 5), []int{5, 70, 130}},
		{256, pairs(5, 70, 70, 128, 128, 6, 6, 5, 5, 200, 200, 5), []int{5, 200}},
		{256, pairs(0, 64, 0, 128, 64, 192, 64, 191, 128, 190, 190, 0, 191, 0, 192, 0), []int{0, 64, 191}},
		{256, pairs(254, 255, 255, 254, 253, 254), []int{254, 255}},
		{64, pairs(0, 63, 62, 63, 0, 62), nil},
	} {
		r := rel.Of(c.n, c.l)
		if got := rel.Cycle(r); !slices.Equal(got, c.want) || rel.Acyclic(r) != (c.want == nil) {
			t.Errorf("P1.6: Cycle of %v: %v, want %v", c.l, got, c.want)
		}
	}
}

func TestP1_6CycleOfAllPoints(t *testing.T) {
	const n = api.MaxPoints
	r := rel.Of(n, pairs(0, n-1, 1, 0))
	want := []int{0, n - 1}
	for p := n - 1; p > 1; p-- {
		r.Put(p, p-1, true)
		want = append(want, p-1)
	}
	if got := rel.Cycle(r); !slices.Equal(got, want) {
		t.Errorf("P1.6: Cycle through all points: %v", got)
	}
	r.Put(1, 0, false)
	if got := rel.Cycle(r); len(got) != 0 || !rel.Acyclic(r) {
		t.Errorf("P1.6: Cycle of a chain: %v", got)
	}
}
