package order

import (
	"slices"

	"sextant/api"
	"sextant/rel"
)

// classes tells the points that lead to one another, each list rising, the lists from that with the least point on.
func classes(r *rel.Rel) [][]int {
	plus := rel.Plus(r)
	both := rel.Inter(plus, rel.Inverse(plus))
	var out [][]int
points:
	for p := range r.Len() {
		for i, c := range out {
			if both.Has(c[0], p) {
				out[i] = append(c, p)
				continue points
			}
		}
		out = append(out, []int{p})
	}
	return out
}

// glued tells each pair as a block, and each other point as one of its own, from the least first point on; not ok, if the pairs can't be.
func glued(n int, pairs []api.Pair) (blocks [][]int, ok bool) {
	for p := range n {
		blocks = append(blocks, []int{p})
	}
	// A block that has not one point is one of a pair that was before: an end is shared.
	free := func(p int) bool { return isPoint(n, p) && len(blocks[p]) == 1 }
	for _, p := range pairs {
		if p.A == p.B || !free(p.A) || !free(p.B) {
			return nil, false
		}
		blocks[p.A], blocks[p.B] = []int{p.A, p.B}, nil
	}
	return slices.DeleteFunc(blocks, func(b []int) bool { return len(b) == 0 }), true
}

// sortBlocks lays blocks as Sort lays points; their numbers are their places in the list.
func sortBlocks(r *rel.Rel, blocks [][]int) ([][]int, api.Errno) {
	l, e := Sort(between(r, blocks))
	var out [][]int
	for _, i := range l {
		out = append(out, blocks[i])
	}
	return out, e
}

// between is the relation of blocks: one and another one, if a point of the one is in a pair with a point of the other.
func between(r *rel.Rel, blocks [][]int) *rel.Rel {
	block := make([]int, r.Len())
	for i, b := range blocks {
		for _, p := range b {
			block[p] = i
		}
	}
	out := rel.New(len(blocks))
	for _, p := range r.Pairs() {
		if a, b := block[p.A], block[p.B]; a != b {
			out.Put(a, b, true)
		}
	}
	return out
}
