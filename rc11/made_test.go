package rc11_test

import (
	"slices"
	"testing"

	"sextant/api"
	"sextant/graph"
	"sextant/rc11"
)

// made is a well-formed source graph. tame: how seldom (one of so many) a read reads another write than the newest that is listed ahead of it, or a write stands in co elsewhere than at the end; so that more of them are consistent. With 1 a read reads any write of its cell.
func made(roll func(n int) int, tame int) api.Graph {
	g := initial(1+roll(3), X)
	count := 1 + roll(4)
	for range roll(14) {
		g.Events = append(g.Events, madeEvent(g, roll, count))
	}
	for i, e := range g.Events {
		if e.Kind != api.Write || i < g.Cells {
			continue
		}
		at := len(g.Co[e.Loc])
		if roll(tame) == 0 {
			at = 1 + roll(at)
		}
		g.Co[e.Loc] = slices.Insert(g.Co[e.Loc], at, i)
	}
	for i, e := range g.Events {
		if e.Kind == api.Read {
			w := madeSource(g, roll, i, tame)
			g.Events[i].Val = g.Events[w].Val
			g.Rf = append(g.Rf, api.Pair{A: w, B: i})
			if n := nextOf(g, i); n >= 0 && g.Events[n].Kind == api.Write && g.Events[n].Loc == e.Loc && roll(4) > 0 {
				g.Rmw = append(g.Rmw, api.Pair{A: i, B: n})
			}
		}
	}
	return g
}

// madeEvent is often the write of what may become a pair.
func madeEvent(g api.Graph, roll func(n int) int, count int) api.Event {
	last := g.Events[len(g.Events)-1]
	e := api.Event{Thread: roll(count) * 21, Kind: []int{1, 1, 2, 2, 3}[roll(5)], Loc: roll(g.Cells)}
	if last.Kind == api.Read && roll(2) == 0 {
		e.Thread, e.Kind, e.Loc = last.Thread, api.Write, last.Loc
	}
	switch e.Kind {
	case api.Read:
		e.Mode = readModes[roll(3)]
	case api.Write:
		e.Mode, e.Val = writeModes[roll(3)], uint64(roll(3))-1
	case api.Fence:
		e.Mode, e.Loc = fenceModes[roll(4)], -1
	}
	return e
}

// madeSource is the write that a read reads.
func madeSource(g api.Graph, roll func(n int) int, at, tame int) int {
	l := g.Co[g.Events[at].Loc]
	if roll(tame) == 0 {
		return l[roll(len(l))]
	}
	for i := len(l) - 1; i > 0; i-- {
		if l[i] < at {
			return l[i]
		}
	}
	return l[0]
}

// nextOf is the next event of an event's thread, -1 if there is none.
func nextOf(g api.Graph, at int) int {
	for i := at + 1; i < len(g.Events); i++ {
		if g.Events[i].Thread == g.Events[at].Thread {
			return i
		}
	}
	return -1
}

// ring is a graph whose threads have two accesses each, of two cells, at times with a fence in between: each thread leads from one cell to the next; strong: how many of ten modes are SC. Such graphs break the last two axioms by themselves.
func ring(roll func(n int) int, strong int) api.Graph {
	n := 2 + roll(3)
	g := initial(n, X)
	mode := func(l []int) int {
		if roll(10) < strong {
			return S
		}
		return l[roll(len(l))]
	}
	shape := roll(5) // all threads write and read, read and write, write twice; or any
	access := func(thread, loc int) api.Event {
		first := thread == loc
		if shape == 2 || shape == 0 && first || shape == 1 && !first || shape > 2 && roll(2) == 0 {
			return write(thread, loc, uint64(1+roll(2)), mode(writeModes))
		}
		return read(thread, loc, 0, mode(readModes))
	}
	for t := range n {
		g.Events = append(g.Events, access(t, t))
		if roll(3) == 0 {
			g.Events = append(g.Events, fence(t, mode(fenceModes)))
		}
		g.Events = append(g.Events, access(t, (t+1)%n))
	}
	g = byValues(g)
	for i, p := range g.Rf {
		l := g.Co[g.Events[p.B].Loc]
		g.Rf[i].A = l[roll(len(l))]
		if shape < 2 {
			g.Rf[i].A = l[min(shape, len(l)-1)]
		}
		g.Events[p.B].Val = g.Events[g.Rf[i].A].Val
	}
	for _, l := range g.Co {
		if len(l) > 2 && roll(2) == 0 {
			l[1], l[2] = l[2], l[1]
		}
	}
	return g
}

// many are made graphs of all sorts.
func many(n int) []api.Graph {
	var out []api.Graph
	for i := range n {
		roll := dice(uint64(i))
		if i%10 < 5 {
			out = append(out, made(roll, []int{1, 2, 4, 8, 1000}[i%5]))
		} else {
			out = append(out, ring(roll, []int{0, 3, 7, 9, 10}[i%5]))
		}
	}
	return out
}

// weaker are the modes that a mode may be made, one step at a time.
func weaker(kind, mode int) []int {
	return map[[2]int][]int{
		{api.Read, S}: {A}, {api.Read, A}: {X},
		{api.Write, S}: {R}, {api.Write, R}: {X},
		{api.Fence, S}: {B}, {api.Fence, B}: {A, R},
	}[[2]int{kind, mode}]
}

// listed is a graph with its events behind the initial ones listed in another order that keeps po; to: their new numbers.
func listed(g api.Graph, roll func(n int) int) (out api.Graph, to []int) {
	var left [][]int
	byThread := map[int]int{}
	for i, e := range g.Events[g.Cells:] {
		if _, ok := byThread[e.Thread]; !ok {
			byThread[e.Thread] = len(left)
			left = append(left, nil)
		}
		left[byThread[e.Thread]] = append(left[byThread[e.Thread]], g.Cells+i)
	}
	to = make([]int, len(g.Events))
	out = api.Graph{Cells: g.Cells, Events: slices.Clone(g.Events[:g.Cells])}
	for c := range g.Cells {
		to[c] = c
	}
	for len(left) > 0 {
		k := roll(len(left))
		to[left[k][0]] = len(out.Events)
		out.Events = append(out.Events, g.Events[left[k][0]])
		if left[k] = left[k][1:]; len(left[k]) == 0 {
			left = slices.Delete(left, k, k+1)
		}
	}
	out.Rf = turned(g.Rf, to, func(p api.Pair) int { return p.B })
	out.Rmw = turned(g.Rmw, to, func(p api.Pair) int { return p.A })
	for _, l := range g.Co {
		var m []int
		for _, i := range l {
			m = append(m, to[i])
		}
		out.Co = append(out.Co, m)
	}
	return out, to
}

// turned are pairs with new numbers, sorted by one of their ends.
func turned(l []api.Pair, to []int, end func(p api.Pair) int) []api.Pair {
	var out []api.Pair
	for _, p := range l {
		out = append(out, api.Pair{A: to[p.A], B: to[p.B]})
	}
	slices.SortFunc(out, func(p, q api.Pair) int { return end(p) - end(q) })
	return out
}

// What is tried has of all that a graph may have, and of all answers.
func TestMadeGraphs(t *testing.T) {
	got := map[string]int{}
	for _, g := range many(3000) {
		if rule, at := graph.Check(g, false); rule != 0 {
			t.Fatalf("a made graph breaks the rule %d at %d: %+v", rule, at, g)
		}
		a, by, e := rc11.Check(g)
		if e != api.OK {
			t.Fatalf("P10.2: Check answers %v: %+v", e, g)
		}
		got["axiom "+string("0CASt"[a])]++
		if a == rc11.Coherence {
			got["coherence by "+string("012"[len(by)])]++
		}
		f := derived(t, g)
		for i, r := range relations(f) {
			if r.Size() > 0 {
				got[relationNames[i]]++
			}
		}
		if a == 0 && len(g.Rmw) > 1 {
			got["pairs in a consistent one"]++
		}
		if slices.ContainsFunc(f.Sw.Pairs(), func(p api.Pair) bool {
			return g.Events[p.A].Kind == api.Fence && g.Events[p.B].Kind == api.Fence
		}) {
			got["sw between fences"]++
		}
	}
	for _, what := range append([]string{"axiom 0", "axiom C", "axiom A", "axiom S", "axiom t", "coherence by 1", "coherence by 2", "pairs in a consistent one", "sw between fences"}, relationNames...) {
		if got[what] < 15 {
			t.Errorf("not all is tried: %s: %d", what, got[what])
		}
	}
}
