package graph_test

import (
	"slices"
	"testing"

	"sextant/api"
)

// modesOf are those that a kind of events may have.
func modesOf(kind int, words bool) []int {
	if words {
		return [][]int{api.Read: {11, 12, 16}, api.Write: {11, 13}, api.Fence: {14, 15}}[kind]
	}
	return [][]int{api.Read: {1, 2, 5}, api.Write: {1, 3, 5}, api.Fence: {2, 3, 4, 5}}[kind]
}

// made is a well-formed graph: not one that a model allows, as reads read any write of their cells.
func made(roll func(n int) int, words bool) api.Graph {
	g := initial(roll(4), words)
	threads := 1 + roll(4)
	for range roll(14) {
		g.Events = append(g.Events, madeEvent(g, roll, threads, words))
	}
	writes := make([][]int, g.Cells)
	for i, e := range g.Events {
		if e.Kind == api.Write {
			writes[e.Loc] = append(writes[e.Loc], i)
		}
	}
	for c := range g.Co {
		l := slices.Clone(writes[c])
		for i := len(l) - 1; i > 1; i-- {
			j := 1 + roll(i)
			l[i], l[j] = l[j], l[i]
		}
		g.Co[c] = l
	}
	for i, e := range g.Events {
		if e.Kind == api.Read {
			w := writes[e.Loc][roll(len(writes[e.Loc]))]
			g.Events[i].Val = g.Events[w].Val
			g.Rf = append(g.Rf, api.Pair{A: w, B: i})
			if n := nextOf(g, i); n >= 0 && g.Events[n].Kind == api.Write && g.Events[n].Loc == e.Loc && roll(3) > 0 {
				g.Rmw = append(g.Rmw, api.Pair{A: i, B: n})
			}
		}
	}
	if words {
		depend(&g, roll)
	}
	return g
}

// madeEvent is often the write of what may become a pair.
func madeEvent(g api.Graph, roll func(n int) int, threads int, words bool) api.Event {
	last := api.Event{}
	if n := len(g.Events); n > 0 {
		last = g.Events[n-1]
	}
	e := api.Event{Thread: roll(threads) * 21, Kind: 1 + roll(3)}
	if last.Kind == api.Read && roll(2) == 0 {
		e.Thread, e.Kind = last.Thread, api.Write
	}
	if g.Cells == 0 {
		e.Kind = api.Fence
	}
	modes := modesOf(e.Kind, words)
	e.Mode = modes[roll(len(modes))]
	if e.Kind == api.Fence {
		e.Loc = -1
		return e
	}
	e.Loc = roll(g.Cells)
	if last.Kind == api.Read && roll(2) == 0 {
		e.Loc = last.Loc
	}
	if e.Kind == api.Write {
		e.Val = uint64(roll(3)) - 1
	}
	return e
}

func depend(g *api.Graph, roll func(n int) int) {
	for a, e := range g.Events {
		for b := a + 1; b < len(g.Events) && e.Kind == api.Read; b++ {
			f := g.Events[b]
			if f.Thread != e.Thread {
				continue
			}
			if f.Kind != api.Fence && roll(3) == 0 {
				g.Addr = append(g.Addr, api.Pair{A: a, B: b})
			}
			if f.Kind == api.Write && roll(3) == 0 {
				g.Data = append(g.Data, api.Pair{A: a, B: b})
			}
			if roll(3) == 0 {
				g.Ctrl = append(g.Ctrl, api.Pair{A: a, B: b})
			}
		}
	}
}

// nextOf is the next event of an event's thread, -1 if there is none.
func nextOf(g api.Graph, at int) int {
	for i := at + 1; i < len(g.Events); i++ {
		if g.Events[i].Thread == g.Events[at].Thread {
			return i
		}
	}
	return -1
}

// spoil changes something of a graph; what comes out may be well-formed still.
func spoil(g *api.Graph, roll func(n int) int) {
	switch roll(9) {
	case 0:
		g.Cells += []int{-1, 1, far[roll(len(far))]}[roll(3)]
	case 1, 2, 3:
		spoilEvents(g, roll)
	case 4, 5:
		spoilOrders(g, roll)
	default:
		spoilPairs(lists(g)[roll(5)], len(g.Events), roll)
	}
}

func spoilEvents(g *api.Graph, roll func(n int) int) {
	if len(g.Events) == 0 {
		g.Events = append(g.Events, fence(0, api.SC))
		return
	}
	i, j := roll(len(g.Events)), roll(len(g.Events))
	e := &g.Events[i]
	number := []int{roll(20) - 2, far[roll(len(far))]}[roll(2)]
	switch roll(8) {
	case 0:
		e.Thread = number
	case 1:
		e.Kind = roll(5)
	case 2:
		e.Loc = number
	case 3:
		e.Val = uint64(number)
	case 4:
		e.Mode = number
	case 5:
		g.Events[i], g.Events[j] = g.Events[j], g.Events[i]
	case 6:
		g.Events = slices.Delete(g.Events, i, i+1)
	case 7:
		g.Events = append(g.Events, g.Events[i])
	}
}

func spoilOrders(g *api.Graph, roll func(n int) int) {
	if len(g.Co) == 0 || roll(5) == 0 {
		g.Co = append(g.Co, []int{0, 1}[:roll(3)])
		return
	}
	c, d := roll(len(g.Co)), roll(len(g.Co))
	l := g.Co[c]
	switch at := roll(len(l) + 1); {
	case roll(6) == 0:
		g.Co[c], g.Co[d] = g.Co[d], g.Co[c]
	case roll(6) == 0:
		g.Co = slices.Delete(g.Co, c, c+1)
	case at == len(l) || roll(3) == 0:
		g.Co[c] = slices.Insert(l, at, []int{roll(len(g.Events) + 2), far[roll(len(far))]}[roll(2)])
	case roll(2) == 0:
		other := roll(len(l))
		l[at], l[other] = l[other], l[at]
	case roll(2) == 0:
		g.Co[c] = slices.Delete(l, at, at+1)
	default:
		l[at] = roll(len(g.Events) + 2)
	}
}

func spoilPairs(l *[]api.Pair, events int, roll func(n int) int) {
	end := func() int { return []int{roll(events + 3), roll(events + 3), far[roll(len(far))]}[roll(3)] }
	if len(*l) == 0 || roll(4) == 0 {
		*l = slices.Insert(*l, roll(len(*l)+1), api.Pair{A: end(), B: end()})
		return
	}
	i, j := roll(len(*l)), roll(len(*l))
	switch p := &(*l)[i]; roll(6) {
	case 0:
		p.A = end()
	case 1:
		p.B = end()
	case 2:
		p.A, p.B = p.B, p.A
	case 3:
		(*l)[i], (*l)[j] = (*l)[j], (*l)[i]
	case 4:
		*l = slices.Delete(*l, i, i+1)
	case 5:
		*l = slices.Insert(*l, i, *p)
	}
}

// What is tried has of all that a graph may have.
func TestMadeGraphs(t *testing.T) {
	got := map[string]int{}
	for _, words := range []bool{false, true} {
		for i := range 300 {
			g := made(dice(uint64(i)), words)
			for k, l := range lists(&g) {
				if len(*l) > 1 {
					got[string("frADC"[k])]++
				}
			}
			if g.Cells == 3 && slices.ContainsFunc(g.Co, func(l []int) bool { return len(l) > 3 && !slices.IsSorted(l) }) {
				got["orders"]++
			}
			if slices.ContainsFunc(g.Rf, func(p api.Pair) bool { return p.A > p.B }) {
				got["reads of later writes"]++
			}
			if slices.ContainsFunc(g.Rmw, func(p api.Pair) bool { return p.B > p.A+1 }) {
				got["pairs apart"]++
			}
		}
	}
	for _, what := range []string{"f", "r", "A", "D", "C", "orders", "reads of later writes", "pairs apart"} {
		if got[what] < 15 {
			t.Errorf("not all is tried: %s: %d", what, got[what])
		}
	}
}
