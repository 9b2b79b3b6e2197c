package order_test

import (
	"math"
	"slices"
	"testing"

	"sextant/api"
	"sextant/order"
	"sextant/rel"
)

func TestP2_1Linear(t *testing.T) {
	for _, r := range append(append(few(), some()...), example(), round()) {
		for _, l := range permutations(r.Len()) {
			if order.Linear(r, l) != stands(r, l) {
				t.Fatalf("P2.1: Linear of %v and %v is %v", r.Pairs(), l, !stands(r, l))
			}
		}
	}
}

func TestP2_1LinearOfWrongLists(t *testing.T) {
	none := rel.New(3)
	for _, l := range [][]int{nil, {0}, {0, 1}, {1, 2}, {0, 1, 2, 3}, {0, 1, 2, 2}, {0, 1, 2, -1}, {0, 0, 1}, {0, 1, 0}, {2, 1, 1}, {0, 1, 3}, {-1, 0, 1}, {-1, -1, -1}, {3, 3, 3}, {0, 1, math.MaxInt}, {math.MinInt, 1, 2}, make([]int, 1000)} {
		if order.Linear(none, l) {
			t.Errorf("P2.1: Linear of no pairs and %v", l)
		}
	}
	if !order.Linear(none, []int{2, 0, 1}) || !order.Linear(rel.New(0), nil) || !order.Linear(rel.New(0), []int{}) || order.Linear(rel.New(0), []int{0}) {
		t.Errorf("P2.1: Linear of no pairs")
	}
	if !order.Linear(example(), []int{3, 2, 1, 0}) || order.Linear(example(), []int{2, 0, 3}) || order.Linear(example(), []int{2, 0, 3, 3}) {
		t.Errorf("P2.1: Linear of the example")
	}
}

func TestP2_1Sort(t *testing.T) {
	for _, r := range append(append(few(), some()...), example(), round()) {
		l, e := order.Sort(r)
		all := ordersOf(r)
		if len(all) == 0 {
			if e != api.ECYCLE || len(l) != 0 {
				t.Fatalf("P2.1: Sort of %v: %v, %d", r.Pairs(), l, e)
			}
			continue
		}
		if e != api.OK || !slices.Equal(l, all[0]) {
			t.Fatalf("P2.1: Sort of %v: %v, %d; want %v", r.Pairs(), l, e, all[0])
		}
	}
}

// leastReady is the promise's rule: at each place the least point whose predecessors all stand.
func leastReady(r *rel.Rel) []int {
	var l []int
	for len(l) < r.Len() {
		for p := range r.Len() {
			waits := false
			for q := range r.Len() {
				waits = waits || r.Has(q, p) && !slices.Contains(l, q)
			}
			if !waits && !slices.Contains(l, p) {
				l = append(l, p)
				break
			}
		}
	}
	return l
}

func TestP2_1SortOfManyPoints(t *testing.T) {
	for _, r := range chains() {
		if l, e := order.Sort(r); e != api.OK || !slices.Equal(l, leastReady(r)) {
			t.Errorf("P2.1: Sort of %d points: %v, %d", r.Len(), l, e)
		}
		l, _ := order.Sort(r)
		last, first := l[r.Len()-1], l[0]
		r.Put(last, first, true)
		r.Put(first, last, true)
		if l, e := order.Sort(r); e != api.ECYCLE || len(l) != 0 {
			t.Errorf("P2.1: Sort of %d points with a cycle: %v, %d", r.Len(), l, e)
		}
	}
}

func TestP2_2Extensions(t *testing.T) {
	for _, r := range append(append(few(), some()...), example(), round()) {
		all := ordersOf(r)
		n := len(all)
		for _, most := range []int{math.MinInt, -1, 0, 1, 2, n - 1, n, n + 1, math.MaxInt} {
			l, whole := order.Extensions(r, most)
			if !same(l, all[:min(max(most, 0), n)]) || whole != (most >= n || n == 0) {
				t.Fatalf("P2.2: Extensions of %v, at most %d: %v, %v; all are %v", r.Pairs(), most, l, whole, all)
			}
		}
	}
}

func TestP2_2ExtensionsOfNoPoints(t *testing.T) {
	for most, want := range []int{0, 1, 1} {
		l, whole := order.Extensions(rel.New(0), most)
		if len(l) != want || want == 1 && len(l[0]) != 0 || whole != (want == 1) {
			t.Errorf("P2.2: Extensions of no points, at most %d: %v, %v", most, l, whole)
		}
	}
}

func TestP2_2ExtensionsOfManyPoints(t *testing.T) {
	l, whole := order.Extensions(rel.New(256), 3)
	if len(l) != 3 || whole || !slices.Equal(l[1][:254], l[0][:254]) || !slices.Equal(l[1][254:], []int{255, 254}) || !slices.Equal(l[2][253:], []int{254, 253, 255}) {
		t.Errorf("P2.2: Extensions of 256 points")
	}
	// So many free points ahead of a cycle that trying all their orders would not end.
	if l, whole := order.Extensions(rel.Of(256, pairs(254, 255, 255, 254)), 5); len(l) != 0 || !whole {
		t.Errorf("P2.2: Extensions of 256 points with a cycle: %d, %v", len(l), whole)
	}
	chain := rel.New(256)
	for p := range 255 {
		chain.Put(p+1, p, true)
	}
	if l, whole := order.Extensions(chain, 1); len(l) != 1 || !whole || l[0][0] != 255 || l[0][255] != 0 {
		t.Errorf("P2.2: Extensions of a chain: %v, %v", l, whole)
	}
	chain.Put(128, 127, false)
	chain.Put(1, 0, false)
	chain.Put(255, 1, true)
	if l, whole := order.Extensions(chain, 1000); len(l) != 1000 || whole || !slices.IsSortedFunc(l, slices.Compare[[]int]) {
		t.Errorf("P2.2: Extensions of two chains: %d, %v", len(l), whole)
	}
}

// componentsOf is the promise's rule, list by list.
func componentsOf(r *rel.Rel) [][]int {
	one := func(p, q int) bool { return p == q || leads(r, p)[q] && leads(r, q)[p] }
	var out [][]int
	placed := func(p int) bool {
		return slices.ContainsFunc(out, func(l []int) bool { return slices.Contains(l, p) })
	}
	ready := func(l []int) bool {
		for _, p := range l {
			for q := range r.Len() {
				if r.Has(q, p) && !slices.Contains(l, q) && !placed(q) {
					return false
				}
			}
		}
		return true
	}
	for p := 0; p < r.Len(); p++ {
		var l []int
		for q := range r.Len() {
			if one(p, q) {
				l = append(l, q)
			}
		}
		if l[0] == p && !placed(p) && ready(l) {
			out = append(out, l)
			p = -1
		}
	}
	return out
}

func TestP2_3Components(t *testing.T) {
	for _, r := range append(append(few(), some()...), example(), round()) {
		if l, want := order.Components(r), componentsOf(r); !same(l, want) {
			t.Fatalf("P2.3: Components of %v: %v; want %v", r.Pairs(), l, want)
		}
	}
	if l := order.Components(round()); !same(l, [][]int{{0, 1}, {3}, {4}, {2}}) {
		t.Errorf("P2.3: Components of the round example: %v", l)
	}
	if l := order.Components(rel.New(0)); len(l) != 0 {
		t.Errorf("P2.3: Components of no points: %v", l)
	}
}

func TestP2_3ComponentsOfManyPoints(t *testing.T) {
	ring := rel.New(256)
	for p := range 256 {
		ring.Put(p, (p+3)%256, true)
	}
	if l := order.Components(ring); len(l) != 1 || len(l[0]) != 256 || !slices.IsSorted(l[0]) {
		t.Errorf("P2.3: Components of a ring: %v", l)
	}
	// Two rings, of the even and of the odd points, the odd ones ahead.
	two := rel.Of(256, pairs(1, 254))
	for p := range 256 {
		two.Put(p, (p+2)%256, true)
	}
	if l := order.Components(two); len(l) != 2 || len(l[0]) != 128 || l[0][0] != 1 || l[1][0] != 0 || !slices.IsSorted(l[0]) || !slices.IsSorted(l[1]) {
		t.Errorf("P2.3: Components of two rings: %v", l)
	}
}

func TestP2_4Reduction(t *testing.T) {
	for _, r := range append(append(append(few(), some()...), chains()...), example(), round()) {
		got, e := order.Reduction(r)
		var reach [][]bool
		round := false
		for p := range r.Len() {
			reach = append(reach, leads(r, p))
			round = round || reach[p][p]
		}
		if round {
			if e != api.ECYCLE || got != nil {
				t.Fatalf("P2.4: Reduction of %v: %d", r.Pairs(), e)
			}
			continue
		}
		want := rel.New(r.Len())
		for a := range reach {
			for b := range reach {
				through := false
				for c := range reach {
					through = through || reach[a][c] && reach[c][b]
				}
				want.Put(a, b, reach[a][b] && !through)
			}
		}
		if e != api.OK || !rel.Equal(got, want) {
			t.Fatalf("P2.4: Reduction of %v: %d, want %v", r.Pairs(), e, want.Pairs())
		}
	}
}

func TestP2_4ReductionIsTheLeast(t *testing.T) {
	for _, r := range append(some(), example(), rel.Of(3, pairs(0, 1, 1, 2, 0, 2))) {
		got, e := order.Reduction(r)
		if e != api.OK {
			continue
		}
		if !rel.Equal(rel.Plus(got), rel.Plus(r)) {
			t.Fatalf("P2.4: Reduction of %v has another closure: %v", r.Pairs(), got.Pairs())
		}
		for _, p := range got.Pairs() {
			got.Put(p.A, p.B, false)
			if rel.Equal(rel.Plus(got), rel.Plus(r)) {
				t.Fatalf("P2.4: Reduction of %v has %v for nothing", r.Pairs(), p)
			}
			got.Put(p.A, p.B, true)
		}
	}
}
