package order_test

import (
	"slices"

	"sextant/api"
	"sextant/rel"
)

func pairs(l ...int) []api.Pair {
	var out []api.Pair
	for i := 0; i+1 < len(l); i += 2 {
		out = append(out, api.Pair{A: l[i], B: l[i+1]})
	}
	return out
}

// example is the chapter's r.
func example() *rel.Rel { return rel.Of(4, pairs(2, 0, 3, 1)) }

// round is the chapter's c.
func round() *rel.Rel { return rel.Of(5, pairs(0, 1, 1, 0, 1, 4, 3, 3, 4, 2)) }

func same(a, b [][]int) bool { return slices.EqualFunc(a, b, slices.Equal[[]int]) }

// numbered is the relation of n points that has the pair (i/n, i%n) if bit i of a number is set.
func numbered(n int, bits uint64) *rel.Rel {
	r := rel.New(n)
	for i := range n * n {
		r.Put(i/n, i%n, bits>>i&1 == 1)
	}
	return r
}

// few are all relations of at most 3 points.
func few() []*rel.Rel {
	var out []*rel.Rel
	for n := range 4 {
		for bits := range uint64(1) << (n * n) {
			out = append(out, numbered(n, bits))
		}
	}
	return out
}

// some are sparse relations of 4 to 6 points, about two in five of them without a cycle.
func some() []*rel.Rel {
	var out []*rel.Rel
	for seed := range uint64(1500) {
		a := (seed + 1) * 0x9e3779b97f4a7c15
		b := (a ^ a>>29) * 0xbf58476d1ce4e5b9
		c := (b ^ b>>32) * 0x94d049bb133111eb
		out = append(out, numbered(4+int(seed%3), (a^a>>31)&(b^b>>27)&(c^c>>30)))
	}
	return out
}

// chains are wide relations without a cycle: every third number, mixed, leads to some of those that come behind it.
func chains() []*rel.Rel {
	var out []*rel.Rel
	for _, n := range []int{63, 64, 65, 128, 255, 256} {
		r := rel.New(n)
		for i := range n {
			for j := i + 1; j < n; j++ {
				if i%3 == 0 && (i*7+j*5)%11 == 0 {
					r.Put(mixed(n, i), mixed(n, j), true)
				}
			}
		}
		out = append(out, r)
	}
	return out
}

// mixed takes the numbers below n to one another: every second one down from the greatest, and then the others up.
func mixed(n, i int) int {
	half := (n + 1) / 2
	if i < half {
		return n - 1 - 2*i
	}
	return 2*(i-half) + n%2
}

// permutations are all lists of n points, in their order.
func permutations(n int) [][]int {
	out := [][]int{nil}
	for range n {
		var longer [][]int
		for _, l := range out {
			for p := range n {
				if !slices.Contains(l, p) {
					longer = append(longer, append(slices.Clone(l), p))
				}
			}
		}
		out = longer
	}
	return out
}

// stands tells of a list of all points, by looking for each pair, whether it is an order.
func stands(r *rel.Rel, l []int) bool {
	for i := range l {
		for j := range i + 1 {
			if r.Has(l[i], l[j]) {
				return false
			}
		}
	}
	return true
}

// ordersOf tries all lists.
func ordersOf(r *rel.Rel) [][]int {
	return slices.DeleteFunc(permutations(r.Len()), func(l []int) bool { return !stands(r, l) })
}

// leads goes from point to point, and tells which ones a step or more lead to.
func leads(r *rel.Rel, from int) []bool {
	seen := make([]bool, r.Len())
	todo := []int{from}
	for len(todo) > 0 {
		p := todo[0]
		todo = todo[1:]
		for q := range r.Len() {
			if r.Has(p, q) && !seen[q] {
				seen[q] = true
				todo = append(todo, q)
			}
		}
	}
	return seen
}
