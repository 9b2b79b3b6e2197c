package graph

import (
	"sextant/api"
	"sextant/rel"
)

// form is which modes a kind of events may have, a bit for each.
type form struct{ source, words int }

// forms are those of the kinds.
var forms = [...]form{
	api.Read: {
		source: 1<<api.Rlx | 1<<api.Acq | 1<<api.SC,
		words:  1<<api.Plain | 1<<api.Acquire | 1<<api.AcquirePC,
	},
	api.Write: {
		source: 1<<api.Rlx | 1<<api.Rel | 1<<api.SC,
		words:  1<<api.Plain | 1<<api.Release,
	},
	api.Fence: {
		source: 1<<api.Acq | 1<<api.Rel | 1<<api.AcqRel | 1<<api.SC,
		words:  1<<api.FenceLd | 1<<api.FenceSy,
	},
}

// may tells whether an event of that kind, which is one of the three, may have the mode.
func may(kind, mode int, words bool) bool {
	set := forms[kind].source
	if words {
		set = forms[kind].words
	}
	return mode >= 0 && set>>mode&1 == 1
}

// isPo tells whether an event is before another one in program order: initial writes are in none.
func isPo(l []api.Event, a, b int) bool {
	return a < b && l[a].Thread == l[b].Thread && l[a].Thread != -1
}

// isSame tells whether two events are accesses of one cell.
func isSame(a, b api.Event) bool {
	return a.Kind != api.Fence && b.Kind != api.Fence && a.Loc == b.Loc
}

func truths(l []api.Event, holds func(e api.Event) bool) []bool {
	out := make([]bool, len(l))
	for i, e := range l {
		out[i] = holds(e)
	}
	return out
}

// numbers rise.
func numbers(l []api.Event, holds func(e api.Event) bool) []int {
	var out []int
	for i, e := range l {
		if holds(e) {
			out = append(out, i)
		}
	}
	return out
}

func ofKind(l []api.Event, kind int) []bool {
	return truths(l, func(e api.Event) bool { return e.Kind == kind })
}

// between is the relation of all pairs of which something holds.
func between(n int, holds func(a, b int) bool) *rel.Rel {
	out := rel.New(n)
	for a := range n {
		for b := range n {
			if holds(a, b) {
				out.Put(a, b, true)
			}
		}
	}
	return out
}

// ordered is the relation of all pairs of which the one stands ahead of the other in a list.
func ordered(n int, lists [][]int) *rel.Rel {
	out := rel.New(n)
	for _, l := range lists {
		for i, b := range l {
			for _, a := range l[:i] {
				out.Put(a, b, true)
			}
		}
	}
	return out
}
