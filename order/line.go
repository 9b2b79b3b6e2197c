package order

import (
	"iter"
	"slices"

	"sextant/rel"
)

// line is an order that is being laid, point by point.
type line struct {
	points []int   // those that stand
	behind [][]int // of each point those that must stand behind it
	waits  []int   // of each point how many of its predecessors don't stand yet; one more, once it stands itself
}

func newLine(r *rel.Rel) *line {
	l := &line{behind: make([][]int, r.Len()), waits: make([]int, r.Len())}
	for _, p := range r.Pairs() {
		l.behind[p.A] = append(l.behind[p.A], p.B)
		l.waits[p.B]++
	}
	return l
}

func (l *line) put(p int) {
	l.points = append(l.points, p)
	l.count(p, 1)
}

func (l *line) take() int {
	last := len(l.points) - 1
	p := l.points[last]
	l.points = l.points[:last]
	l.count(p, -1)
	return p
}

func (l *line) count(p, by int) {
	l.waits[p] += by
	for _, q := range l.behind[p] {
		l.waits[q] -= by
	}
}

// orders gives the orders of r, each in a list of its own, from that which is ahead of all others on. A line that is not full and can't go on tells that r has a cycle; it would come to that on every way, so that the first one is enough.
func orders(r *rel.Rel) iter.Seq[[]int] {
	return func(yield func([]int) bool) {
		l := newLine(r)
		next := func(from int) (int, bool) {
			i := slices.Index(l.waits[from:], 0)
			return from + i, i >= 0
		}
		from := 0
	walk:
		for {
			for p, ok := next(from); ok; p, ok = next(0) {
				l.put(p)
			}
			if len(l.points) < r.Len() || !yield(slices.Clone(l.points)) {
				break
			}
			for ok := false; !ok; _, ok = next(from) {
				if len(l.points) == 0 {
					break walk
				}
				from = l.take() + 1
			}
		}
	}
}
