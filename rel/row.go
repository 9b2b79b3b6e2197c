package rel

import (
	"iter"
	"math/bits"

	"sextant/api"
)

const wordBits = 64

// row is a set of points, a bit each. It is an array, not a slice, so that assigning one copies it and no two relations can share any.
type row [api.MaxPoints / wordBits]uint64

// rowOf leaves out what stands in a set behind the last point: a list may be longer than there are points.
func rowOf(n int, set []bool) row {
	var out row
	for p := range min(n, len(set)) {
		out = out.with(p, set[p])
	}
	return out
}

func (w row) has(p int) bool {
	return w[p/wordBits]>>(p%wordBits)&1 == 1
}

func (w row) with(p int, in bool) row {
	bit := uint64(1) << (p % wordBits)
	if in {
		w[p/wordBits] |= bit
	} else {
		w[p/wordBits] &^= bit
	}
	return w
}

// points rises: the order of Pairs, and the least choice of Cycle, rest on that.
func (w row) points() iter.Seq[int] {
	return func(yield func(int) bool) {
		for i, word := range w {
			for ; word != 0; word &= word - 1 {
				if !yield(i*wordBits + bits.TrailingZeros64(word)) {
					return
				}
			}
		}
	}
}

func (w row) count() int {
	n := 0
	for _, word := range w {
		n += bits.OnesCount64(word)
	}
	return n
}

func (w row) empty() bool { return w == row{} }

func join(rows ...row) row {
	var out row
	for _, w := range rows {
		for i := range out {
			out[i] |= w[i]
		}
	}
	return out
}

func meet(a, b row) row {
	for i := range a {
		a[i] &= b[i]
	}
	return a
}

func without(a, b row) row {
	for i := range a {
		a[i] &^= b[i]
	}
	return a
}
