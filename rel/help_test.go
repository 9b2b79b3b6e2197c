package rel_test

import (
	"slices"
	"testing"

	"sextant/api"
	"sextant/rel"
)

func pairs(l ...int) []api.Pair {
	var out []api.Pair
	for i := 0; i+1 < len(l); i += 2 {
		out = append(out, api.Pair{A: l[i], B: l[i+1]})
	}
	return out
}

// example is the chapter's r.
func example() *rel.Rel { return rel.Of(4, pairs(0, 1, 1, 2, 2, 0, 2, 3, 9, 1)) }

func is(t *testing.T, what string, r *rel.Rel, n int, want ...int) {
	t.Helper()
	l := pairs(want...)
	if r.Len() != n || r.Size() != len(l) || !slices.Equal(r.Pairs(), l) {
		t.Errorf("%s: %d points, %d pairs %v; want %d points, %v", what, r.Len(), r.Size(), r.Pairs(), n, l)
	}
}

// agrees asks every pair, those just outside the points too, so that no stray bit stays unseen.
func agrees(t *testing.T, what string, r *rel.Rel, n int, want func(p, q int) bool) {
	t.Helper()
	if r.Len() != n {
		t.Fatalf("%s: %d points, want %d", what, r.Len(), n)
	}
	var l []api.Pair
	for p := -1; p <= n; p++ {
		for q := -1; q <= n; q++ {
			in := p >= 0 && p < n && q >= 0 && q < n && want(p, q)
			if r.Has(p, q) != in {
				t.Fatalf("%s: Has(%d, %d) is %v", what, p, q, !in)
			}
			if in {
				l = append(l, api.Pair{A: p, B: q})
			}
		}
	}
	if r.Size() != len(l) || !slices.Equal(r.Pairs(), l) {
		t.Fatalf("%s: Size %d, Pairs %v; want %d, %v", what, r.Size(), r.Pairs(), len(l), l)
	}
}

// every is the relation of n points whose pairs are the bits of a number.
func every(n, bits int) *rel.Rel {
	r := rel.New(n)
	for i := range n * n {
		if bits>>i&1 == 1 {
			r.Put(i/n, i%n, true)
		}
	}
	return r
}

// scattered has about one pair in sparse; seed makes it another one.
func scattered(n, sparse int, seed uint64) *rel.Rel {
	r := rel.New(n)
	for p := range n {
		for q := range n {
			seed = seed*6364136223846793005 + 1442695040888963407
			if seed>>33%uint64(sparse) == 0 {
				r.Put(p, q, true)
			}
		}
	}
	return r
}

// small are all relations of at most 2 points, and some of 3 to 9.
func small() []*rel.Rel {
	out := []*rel.Rel{rel.New(0)}
	for n := 1; n <= 2; n++ {
		for bits := range 1 << (n * n) {
			out = append(out, every(n, bits))
		}
	}
	for n := 3; n <= 9; n++ {
		for sparse := 1; sparse <= 7; sparse += 2 {
			out = append(out, scattered(n, sparse, uint64(n*sparse)))
		}
	}
	return out
}

// wide ones end at, below and above the borders of 64 bits.
func wide() []*rel.Rel {
	return []*rel.Rel{scattered(63, 70, 1), scattered(64, 40, 2), scattered(65, 50, 3), scattered(129, 90, 4), scattered(256, 200, 5)}
}

func set(n, every, from int) []bool {
	out := make([]bool, n)
	for i := from; i < n; i += every {
		out[i] = true
	}
	return out
}

func in(set []bool, p int) bool { return p < len(set) && set[p] }

func sets() [][]bool {
	return [][]bool{nil, {}, {true}, {false, true}, set(3, 2, 0), set(64, 3, 1), set(65, 1, 0), set(256, 2, 1), set(257, 1, 0), set(1000, 5, 2)}
}

// both hands all small and wide relations to a check, two by two.
func both(check func(a, b *rel.Rel)) {
	for _, l := range [][]*rel.Rel{small(), wide()} {
		for _, a := range l {
			for _, b := range l {
				check(a, b)
			}
		}
	}
	check(rel.New(0), rel.New(256))
	check(scattered(3, 2, 7), scattered(256, 200, 5))
	check(scattered(256, 200, 5), scattered(3, 2, 7))
}

// turn takes all pairs out that are in, and puts all others in.
func turn(r *rel.Rel) {
	for p := range r.Len() {
		for q := range r.Len() {
			r.Put(p, q, !r.Has(p, q))
		}
	}
}
