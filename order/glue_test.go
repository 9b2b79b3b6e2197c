package order_test

import (
	"math"
	"slices"
	"testing"

	"sextant/api"
	"sextant/order"
	"sextant/rel"
)

// together tells whether in a list each pair's second stands next behind its first.
func together(l []int, glue []api.Pair) bool {
	for _, p := range glue {
		if i := slices.Index(l, p.A); i+1 >= len(l) || l[i+1] != p.B {
			return false
		}
	}
	return true
}

// gluedOf tries all orders: of those that have the pairs together that which is ahead of the others, the pairs' seconds left out. Not any, if there is none.
func gluedOf(all [][]int, glue []api.Pair) (best []int, any bool) {
	firsts := func(l []int) []int {
		return slices.DeleteFunc(slices.Clone(l), func(p int) bool {
			return slices.ContainsFunc(glue, func(g api.Pair) bool { return g.B == p })
		})
	}
	for _, l := range all {
		if together(l, glue) && (!any || slices.Compare(firsts(l), firsts(best)) < 0) {
			best, any = l, true
		}
	}
	return best, any
}

// wrong is the promise's rule of what is refused.
func wrong(n int, glue []api.Pair) bool {
	var ends []int
	for _, p := range glue {
		ends = append(ends, p.A, p.B)
	}
	slices.Sort(ends)
	return len(slices.Compact(slices.Clone(ends))) < len(ends) || slices.ContainsFunc(ends, func(p int) bool { return p < 0 || p >= n })
}

// glues are lists of pairs of n points, and of numbers next to these.
func glues(n int) [][]api.Pair {
	out := [][]api.Pair{nil, {}}
	for a := -1; a <= n; a++ {
		for b := -1; b <= n; b++ {
			out = append(out, pairs(a, b))
			for c := range n {
				out = append(out, pairs(a, b, c, (c+a+n)%n), pairs(c, (c+b+n)%n, a, b))
			}
		}
	}
	return append(out, pairs(0, 1, 2, 3, 4, 5), pairs(5, 0, 1, 4, 3, 2), pairs(4, 5, 0, 3, 2, 0))
}

func checkGlue(t *testing.T, r *rel.Rel, all [][]int, glue []api.Pair) {
	t.Helper()
	l, e := order.Glue(r, glue)
	want, any := gluedOf(all, glue)
	switch {
	case wrong(r.Len(), glue):
		if e != api.EARG || len(l) != 0 {
			t.Fatalf("P2.5: Glue of %v and %v: %v, %d; want EARG", r.Pairs(), glue, l, e)
		}
	case !any:
		if e != api.ECYCLE || len(l) != 0 {
			t.Fatalf("P2.5: Glue of %v and %v: %v, %d; want ECYCLE", r.Pairs(), glue, l, e)
		}
	case e != api.OK || !slices.Equal(l, want):
		t.Fatalf("P2.5: Glue of %v and %v: %v, %d; want %v", r.Pairs(), glue, l, e, want)
	}
}

func TestP2_5Glue(t *testing.T) {
	for _, r := range append(few(), example(), round()) {
		all := ordersOf(r)
		for _, glue := range glues(r.Len()) {
			checkGlue(t, r, all, glue)
		}
	}
	for i, r := range some() {
		all := ordersOf(r)
		for j, glue := range glues(r.Len()) {
			if (i+j)%13 == 0 {
				checkGlue(t, r, all, glue)
			}
		}
	}
}

func TestP2_5GlueExamples(t *testing.T) {
	for _, c := range []struct {
		glue []api.Pair
		want []int
		e    api.Errno
	}{
		{pairs(2, 3), []int{2, 3, 0, 1}, api.OK},
		{pairs(3, 2), []int{3, 2, 0, 1}, api.OK},
		{pairs(0, 2), nil, api.ECYCLE},
		{pairs(0, 3), []int{2, 0, 3, 1}, api.OK},
		{pairs(0, 3, 3, 1), nil, api.EARG},
		{pairs(1, 1), nil, api.EARG},
		{pairs(1, 4), nil, api.EARG},
		{pairs(2, 3, 2, 3), nil, api.EARG},
		{pairs(2, 3, 3, 2), nil, api.EARG},
		{pairs(2, 0, 2, 1), nil, api.EARG},
		{pairs(2, 0, 3, 0), nil, api.EARG},
		{pairs(2, 0, 0, 3), nil, api.EARG},
		{pairs(math.MinInt, math.MaxInt), nil, api.EARG},
		{pairs(0, math.MaxInt), nil, api.EARG},
		{pairs(math.MinInt, 0), nil, api.EARG},
	} {
		if l, e := order.Glue(example(), c.glue); e != c.e || !slices.Equal(l, c.want) {
			t.Errorf("P2.5: Glue of the example and %v: %v, %d; want %v, %d", c.glue, l, e, c.want, c.e)
		}
	}
}

func TestP2_5GlueOfNoPointsAndOfCycles(t *testing.T) {
	if l, e := order.Glue(rel.New(0), nil); e != api.OK || len(l) != 0 {
		t.Errorf("P2.5: Glue of no points: %v, %d", l, e)
	}
	if l, e := order.Glue(rel.New(0), pairs(0, 0)); e != api.EARG || len(l) != 0 {
		t.Errorf("P2.5: Glue of no points and a pair: %v, %d", l, e)
	}
	for _, c := range []struct {
		r    *rel.Rel
		glue []api.Pair
	}{
		{rel.Of(2, pairs(1, 0)), pairs(0, 1)},             // turned inside of a pair
		{rel.Of(2, pairs(0, 1, 1, 0)), pairs(0, 1)},       // a cycle inside of a pair
		{rel.Of(3, pairs(0, 0)), pairs(0, 1)},             // a pair's first in a pair with itself
		{rel.Of(3, pairs(1, 1)), pairs(0, 1)},             // a pair's second
		{rel.Of(3, pairs(2, 2)), pairs(0, 1)},             // another point
		{rel.Of(3, pairs(0, 2, 2, 1)), pairs(0, 1)},       // a point that must stand between
		{rel.Of(4, pairs(0, 3, 2, 1)), pairs(0, 1, 2, 3)}, // two pairs that must each stand ahead of the other
		{rel.Of(3, pairs(2, 2)), nil},
	} {
		if l, e := order.Glue(c.r, c.glue); e != api.ECYCLE || len(l) != 0 {
			t.Errorf("P2.5: Glue of %v and %v: %v, %d", c.r.Pairs(), c.glue, l, e)
		}
		if l, e := order.Glue(c.r, append(c.glue, pairs(1, 9)...)); e != api.EARG || len(l) != 0 {
			t.Errorf("P2.5: Glue of %v and %v and a wrong pair: %v, %d", c.r.Pairs(), c.glue, l, e)
		}
	}
}

func TestP2_5GlueOfManyPoints(t *testing.T) {
	// Each even point is glued behind the odd one above it, so that the pairs' numbers are the odd ones.
	var glue []api.Pair
	for p := 0; p < 256; p += 2 {
		glue = append(glue, api.Pair{A: p + 1, B: p})
	}
	l, e := order.Glue(rel.Of(256, pairs(254, 1, 3, 2)), glue)
	want := []int{3, 2}
	for p := 5; p < 256; p += 2 {
		want = append(want, p, p-1)
	}
	if want = append(want, 1, 0); e != api.OK || !slices.Equal(l, want) {
		t.Errorf("P2.5: Glue of 256 points: %v, %d", l, e)
	}
}
