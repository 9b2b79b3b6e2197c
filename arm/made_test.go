package arm_test

import (
	"cmp"
	"slices"
	"testing"

	"sextant/api"
	"sextant/arm"
	"sextant/graph"
)

// made is a well-formed graph of words. tame: how seldom (one of so many) a read reads another write than the newest that is listed ahead of it, or a write stands in co elsewhere than at the end; so that more of them are consistent. With 1 a read reads any write of its cell.
func made(roll func(n int) int, tame int) api.Graph {
	g := initial(1+roll(3), P)
	count := 1 + roll(4)
	for range roll(14) {
		g.Events = append(g.Events, madeEvent(g, roll, count))
	}
	for i, e := range g.Events {
		if e.Kind != api.Write || i < g.Cells {
			continue
		}
		at := len(g.Co[e.Loc])
		if roll(tame) == 0 {
			at = 1 + roll(at)
		}
		g.Co[e.Loc] = slices.Insert(g.Co[e.Loc], at, i)
	}
	for i, e := range g.Events {
		if e.Kind == api.Read {
			w := madeSource(g, roll, i, tame)
			g.Events[i].Val = g.Events[w].Val
			g.Rf = append(g.Rf, api.Pair{A: w, B: i})
			if n := nextOf(g, i); n >= 0 && g.Events[n].Kind == api.Write && g.Events[n].Loc == e.Loc && roll(4) > 0 {
				g.Rmw = append(g.Rmw, api.Pair{A: i, B: n})
			}
		}
	}
	depend(&g, roll, 2+roll(7))
	return g
}

// madeEvent is often the write of what may become a pair.
func madeEvent(g api.Graph, roll func(n int) int, count int) api.Event {
	last := g.Events[len(g.Events)-1]
	e := api.Event{Thread: roll(count) * 21, Kind: []int{1, 1, 2, 2, 3}[roll(5)], Loc: roll(g.Cells)}
	if last.Kind == api.Read && roll(2) == 0 {
		e.Thread, e.Kind, e.Loc = last.Thread, api.Write, last.Loc
	}
	switch e.Kind {
	case api.Read:
		e.Mode = []int{P, P, A, Q}[roll(4)]
	case api.Write:
		e.Mode, e.Val = []int{P, P, L}[roll(3)], uint64(roll(3))-1
	case api.Fence:
		e.Mode, e.Loc = fenceModes[roll(2)], -1
	}
	return e
}

// madeSource is the write that a read reads.
func madeSource(g api.Graph, roll func(n int) int, at, tame int) int {
	l := g.Co[g.Events[at].Loc]
	if roll(tame) == 0 {
		return l[roll(len(l))]
	}
	for i := len(l) - 1; i > 0; i-- {
		if l[i] < at {
			return l[i]
		}
	}
	return l[0]
}

// nextOf is the next event of an event's thread, -1 if there is none.
func nextOf(g api.Graph, at int) int {
	for i := at + 1; i < len(g.Events); i++ {
		if g.Events[i].Thread == g.Events[at].Thread {
			return i
		}
	}
	return -1
}

// depend gives a graph one of so many of all dependencies that there may be.
func depend(g *api.Graph, roll func(n int) int, seldom int) {
	for a, e := range g.Events {
		for b := a + 1; b < len(g.Events) && e.Kind == api.Read; b++ {
			f := g.Events[b]
			if f.Thread != e.Thread {
				continue
			}
			if f.Kind != api.Fence && roll(seldom) == 0 {
				g.Addr = append(g.Addr, api.Pair{A: a, B: b})
			}
			if f.Kind == api.Write && roll(seldom) == 0 {
				g.Data = append(g.Data, api.Pair{A: a, B: b})
			}
			if roll(seldom) == 0 {
				g.Ctrl = append(g.Ctrl, api.Pair{A: a, B: b})
			}
		}
	}
}

// ring is a graph whose threads lead from one cell to the next: by an access of the one and an access of the other, with something in between at times: a fence, an access of the first cell once more (the two often a pair), or one of a cell of the thread's own. strong: how many of ten modes are more than Plain. Such graphs break External by itself.
func ring(roll func(n int) int, strong int) api.Graph {
	n := 2 + roll(3)
	g := initial(2*n, P)
	shape := roll(5) // all threads write and read, read and write, write twice; or any
	access := func(thread, loc int, first bool) api.Event {
		mode := P
		if shape == 2 || shape == 0 && first || shape == 1 && !first || shape > 2 && roll(2) == 0 {
			if roll(10) < strong {
				mode = L
			}
			return write(thread, loc, uint64(1+roll(2)), mode)
		}
		if roll(10) < strong {
			mode = []int{A, Q}[roll(2)]
		}
		return read(thread, loc, 0, mode)
	}
	for t := range n {
		next := (t + 1) % n
		g.Events = append(g.Events, access(t, t, true))
		switch roll(6) {
		case 0:
			g.Events = append(g.Events, fence(t, fenceModes[roll(2)]))
		case 1:
			g.Events = append(g.Events, access(t, t, roll(2) == 0))
		case 2:
			g.Events = append(g.Events, access(t, next, roll(2) == 0))
		case 3:
			g.Events = append(g.Events, write(t, n+t, 1, P), read(t, n+t, 1, readModes[roll(3)]))
		}
		g.Events = append(g.Events, access(t, next, false))
	}
	g = byValues(g)
	for i, p := range g.Rf {
		l := g.Co[g.Events[p.B].Loc]
		if g.Events[p.B].Loc < n {
			g.Rf[i].A = ringSource(g, roll, l, p.B, shape)
		}
		g.Events[p.B].Val = g.Events[g.Rf[i].A].Val
	}
	for _, p := range g.Rf {
		if b := nextOf(g, p.B); b >= 0 && g.Events[b].Kind == api.Write && g.Events[b].Loc == g.Events[p.B].Loc && roll(4) > 0 {
			g.Rmw = append(g.Rmw, api.Pair{A: p.B, B: b})
		}
	}
	for _, l := range g.Co {
		if len(l) > 2 && roll(2) == 0 {
			l[1], l[2] = l[2], l[1]
		}
	}
	depend(&g, roll, 2+roll(4))
	return g
}

// ringSource is often the initial write, if the threads write and read, and another thread's, if they read and write.
func ringSource(g api.Graph, roll func(n int) int, l []int, at, shape int) int {
	for _, w := range l {
		if w < at && w >= g.Cells && g.Events[w].Thread == g.Events[at].Thread && roll(2) == 0 {
			return w
		}
	}
	if shape < 2 && roll(4) > 0 {
		return l[min(shape, len(l)-1)]
	}
	return l[roll(len(l))]
}

// legs is a graph whose threads are legs of one ring: each begins with an access of its own cell and ends with one of the next thread's, and the two accesses of a cell are in rf, fr or co. What is between the two of a thread is a clause's way from the one to the other, at times with something missing. Such graphs are forbidden by few clauses, or just allowed.
func legs(roll func(n int) int) api.Graph {
	n := 2 + roll(2)
	g := initial(2*n, P)
	edges := make([]int, n) // of each cell: 0 rf, 1 fr, 2 co
	for i := range edges {
		edges[i] = roll(3)
	}
	for t := range n {
		begin, end := read(t, t, 0, P), write(t, (t+1)%n, 0, P)
		if edges[t] > 0 {
			begin.Kind = api.Write
		}
		if edges[(t+1)%n] == 1 {
			end.Kind = api.Read
		}
		leg(&g, roll, begin, end, n+t)
	}
	for c := range g.Co {
		for _, t := range []int{(c + n - 1) % n, c % n} {
			for _, i := range graph.Thread(g, t) {
				if g.Events[i].Kind == api.Write && g.Events[i].Loc == c {
					g.Co[c] = append(g.Co[c], i)
				}
			}
		}
	}
	legValues(&g)
	return g
}

// leg is one, with a cell of its own; wanting: what is missing of it (nothing, most times).
func leg(g *api.Graph, roll func(n int) int, begin, end api.Event, own int) {
	wanting, t, at := roll(8), begin.Thread, len(g.Events)
	dependency := func(lists ...*[]api.Pair) func(a, b int) {
		l := lists[roll(len(lists))]
		return func(a, b int) {
			if wanting > 0 {
				*l = append(*l, api.Pair{A: a, B: b})
			}
		}
	}
	lay := func(l ...api.Event) { g.Events = append(g.Events, l...) }
	reads, writes := begin.Kind == api.Read, end.Kind == api.Write
	strong := func(mode int) int {
		if wanting == 0 {
			return P
		}
		return mode
	}
	first := write(t, end.Loc, 0, P) // of the last cell, which the last access writes again
	switch way := roll(11); {
	case way == 0:
		lay(begin, fence(t, []int{D, Y, Y}[roll(3)]), end)
	case way == 1 && reads:
		begin.Mode = strong([]int{A, Q}[roll(2)])
		lay(begin, end)
	case way == 2 && !reads && !writes:
		begin.Mode, end.Mode = L, strong([]int{A, A, Q}[roll(3)])
		lay(begin, end)
	case way == 3 && writes:
		end.Mode = strong(L)
		lay(begin, end)
	case way == 4 && writes:
		first.Mode = strong(L)
		lay(begin, first, end)
	case way == 5 && reads && writes:
		lay(begin, first, end)
		dependency(&g.Data, &g.Ctrl, &g.Addr)(at, at+1)
	case way == 6 && reads && writes:
		lay(begin, end)
		dependency(&g.Data, &g.Ctrl, &g.Addr)(at, at+1)
	case way == 7 && reads && writes:
		lay(begin, read(t, own, 0, P), end)
		dependency(&g.Addr, &g.Addr, &g.Ctrl)(at, at+1)
	case way == 8 && reads:
		lay(begin, write(t, own, 0, P), read(t, own, 0, P), end)
		dependency(&g.Addr, &g.Data, &g.Ctrl)(at, at+1)
		g.Addr = append(g.Addr, api.Pair{A: at + 2, B: at + 3})
	case way == 9 && reads:
		lay(begin, write(t, begin.Loc, 0, P), read(t, begin.Loc, 0, strong([]int{A, Q}[roll(2)])), end)
		g.Rmw = append(g.Rmw, api.Pair{A: at, B: at + 1})
	case way == 10 && reads:
		lay(begin, end)
		dependency(&g.Addr, &g.Addr, &g.Ctrl)(at, at+1)
	default:
		lay(begin, fence(t, Y), end)
	}
}

// legValues gives each write a value of its own and each read its write: the first access of a thread reads the other thread's last write, the last one the initial write, one in between the last write ahead of it.
func legValues(g *api.Graph) {
	for i, e := range g.Events {
		if e.Kind == api.Write && i >= g.Cells {
			g.Events[i].Val = uint64(i)
		}
	}
	for i, e := range g.Events {
		if e.Kind != api.Read {
			continue
		}
		w, l := e.Loc, g.Co[e.Loc]
		for k, x := range l {
			ofOther, last := g.Events[x].Thread != e.Thread && k > 0, k+1 == len(l) || g.Events[l[k+1]].Thread != g.Events[x].Thread
			if ofOther && last && i == graph.Thread(*g, e.Thread)[0] || g.Events[x].Thread == e.Thread && x < i {
				w = x
			}
		}
		g.Events[i].Val = g.Events[w].Val
		g.Rf = append(g.Rf, api.Pair{A: w, B: i})
	}
}

// many are made graphs of all sorts.
func many(n int) []api.Graph {
	var out []api.Graph
	for i := range n {
		roll := dice(uint64(i))
		switch k := i % 12; {
		case k < 4:
			out = append(out, made(roll, []int{2, 4, 8, 1000}[k]))
		case k < 9:
			out = append(out, ring(roll, []int{0, 2, 4, 6, 9}[k-4]))
		default:
			out = append(out, legs(roll))
		}
	}
	return out
}

// weaker is the mode that a mode may be made, one step, 0 if there is none.
func weaker(kind, mode int) int {
	return map[[2]int]int{
		{api.Read, A}: Q, {api.Read, Q}: P, {api.Write, L}: P, {api.Fence, Y}: D,
	}[[2]int{kind, mode}]
}

// listed is a graph with its events behind the initial ones listed in another order that keeps po; to: their new numbers.
func listed(g api.Graph, roll func(n int) int) (out api.Graph, to []int) {
	var left [][]int
	byThread := map[int]int{}
	for i, e := range g.Events[g.Cells:] {
		if _, ok := byThread[e.Thread]; !ok {
			byThread[e.Thread] = len(left)
			left = append(left, nil)
		}
		left[byThread[e.Thread]] = append(left[byThread[e.Thread]], g.Cells+i)
	}
	to = make([]int, len(g.Events))
	out = api.Graph{Cells: g.Cells, Events: slices.Clone(g.Events[:g.Cells])}
	for c := range g.Cells {
		to[c] = c
	}
	for len(left) > 0 {
		k := roll(len(left))
		to[left[k][0]] = len(out.Events)
		out.Events = append(out.Events, g.Events[left[k][0]])
		if left[k] = left[k][1:]; len(left[k]) == 0 {
			left = slices.Delete(left, k, k+1)
		}
	}
	from := lists(&g)
	for i, l := range lists(&out) {
		*l = turned(*from[i], to)
	}
	slices.SortFunc(out.Rf, func(p, q api.Pair) int { return p.B - q.B })
	for _, l := range g.Co {
		var m []int
		for _, i := range l {
			m = append(m, to[i])
		}
		out.Co = append(out.Co, m)
	}
	return out, to
}

// turned are pairs with new numbers, rising.
func turned(l []api.Pair, to []int) []api.Pair {
	var out []api.Pair
	for _, p := range l {
		out = append(out, api.Pair{A: to[p.A], B: to[p.B]})
	}
	slices.SortFunc(out, func(p, q api.Pair) int { return cmp.Or(p.A-q.A, p.B-q.B) })
	return out
}

// What is tried has of all that a graph may have, and of all answers.
func TestMadeGraphs(t *testing.T) {
	got := map[string]int{}
	for _, g := range many(3000) {
		if rule, at := graph.Check(g, true); rule != 0 {
			t.Fatalf("a made graph breaks the rule %d at %d: %+v", rule, at, g)
		}
		a, _, e := arm.Check(g)
		if e != api.OK {
			t.Fatalf("P11.2: Check answers %v: %+v", e, g)
		}
		got["axiom "+string("0IEA"[a])]++
		f := derived(t, g)
		for i, r := range relations(f) {
			if r.Size() > 0 {
				got[relationNames[i]]++
			}
		}
		if a == 0 && len(g.Rmw) > 1 {
			got["pairs in a consistent one"]++
		}
		if a == 0 && len(g.Addr) > 0 && len(g.Data) > 0 && len(g.Ctrl) > 0 {
			got["dependencies in a consistent one"]++
		}
	}
	for _, what := range append([]string{"axiom 0", "axiom I", "axiom E", "axiom A", "pairs in a consistent one", "dependencies in a consistent one"}, relationNames...) {
		if got[what] < 15 {
			t.Errorf("not all is tried: %s: %d", what, got[what])
		}
	}
}
