package dots

import (
	"cmp"
	"slices"

	"sextant/api"
)

// canonOf is a plain graph's whose numbers are those of its events.
func canonOf(g api.Graph) api.Graph {
	order := byThreads(g.Events)
	places := make([]int, len(order))
	out := api.Graph{Cells: g.Cells}
	for place, i := range order {
		places[i] = place
		out.Events = append(out.Events, g.Events[i])
	}
	lists := pairsOf(&g)
	for i, to := range pairsOf(&out) {
		*to = movedPairs(*lists[i], places)
		slices.SortFunc(*to, byFirst)
	}
	slices.SortFunc(out.Rf, bySecond)
	for _, l := range g.Co {
		out.Co = append(out.Co, moved(l, places))
	}
	return out
}

// byThreads are the events' numbers, thread by thread.
func byThreads(events []api.Event) []int {
	var out []int
	for i := range events {
		out = append(out, i)
	}
	slices.SortStableFunc(out, func(a, b int) int { return cmp.Compare(events[a].Thread, events[b].Thread) })
	return out
}

// moved are the places of numbers.
func moved(numbers, places []int) []int {
	var out []int
	for _, n := range numbers {
		out = append(out, places[n])
	}
	return out
}

func movedPairs(pairs []api.Pair, places []int) []api.Pair {
	var out []api.Pair
	for _, p := range pairs {
		out = append(out, api.Pair{A: places[p.A], B: places[p.B]})
	}
	return out
}

func byFirst(p, q api.Pair) int { return cmp.Or(cmp.Compare(p.A, q.A), cmp.Compare(p.B, q.B)) }

func bySecond(p, q api.Pair) int { return cmp.Or(cmp.Compare(p.B, q.B), cmp.Compare(p.A, q.A)) }
