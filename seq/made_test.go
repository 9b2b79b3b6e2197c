package seq_test

import (
	"slices"
	"testing"

	"sextant/api"
	"sextant/graph"
)

// made is a well-formed graph of a tongue. tame: how seldom (one of so many) a read reads another write than the newest that is listed ahead of it, or a write stands in co elsewhere than at the end; so that more of them are consistent. With 1 a read reads any write of its cell.
func made(roll func(n int) int, u tongue, tame, size int) api.Graph {
	g := initial(1+roll(3), u.weak)
	count := 1 + roll(4)
	for range roll(size) {
		g.Events = append(g.Events, madeEvent(g, roll, u, count))
	}
	for i, e := range g.Events {
		if e.Kind != api.Write || i < g.Cells {
			continue
		}
		at := len(g.Co[e.Loc])
		if roll(tame) == 0 {
			at = 1 + roll(at)
		}
		g.Co[e.Loc] = slices.Insert(g.Co[e.Loc], at, i)
	}
	for i, e := range g.Events {
		if e.Kind == api.Read {
			w := madeSource(g, roll, i, tame)
			g.Events[i].Val = g.Events[w].Val
			g.Rf = append(g.Rf, api.Pair{A: w, B: i})
		}
	}
	return joined(g, roll)
}

// madeEvent is often the write of what may become a pair.
func madeEvent(g api.Graph, roll func(n int) int, u tongue, count int) api.Event {
	last := g.Events[len(g.Events)-1]
	e := api.Event{Thread: roll(count) * 21, Kind: []int{1, 1, 2, 2, 3}[roll(5)], Loc: roll(g.Cells)}
	if last.Kind == api.Read && roll(2) == 0 {
		e.Thread, e.Kind, e.Loc = last.Thread, api.Write, last.Loc
	}
	modes := u.of(e.Kind)
	e.Mode = modes[roll(len(modes))]
	switch e.Kind {
	case api.Write:
		e.Val = uint64(roll(3)) - 1
	case api.Fence:
		e.Loc = -1
	}
	return e
}

// madeSource is the write that a read reads.
func madeSource(g api.Graph, roll func(n int) int, at, tame int) int {
	l := g.Co[g.Events[at].Loc]
	if roll(tame) == 0 {
		return l[roll(len(l))]
	}
	for i := len(l) - 1; i > 0; i-- {
		if l[i] < at {
			return l[i]
		}
	}
	return l[0]
}

// joined makes most of what may be a pair one.
func joined(g api.Graph, roll func(n int) int) api.Graph {
	for i, e := range g.Events {
		n := nextOf(g, i)
		if e.Kind == api.Read && n >= 0 && g.Events[n].Kind == api.Write && g.Events[n].Loc == e.Loc && roll(4) > 0 {
			g.Rmw = append(g.Rmw, api.Pair{A: i, B: n})
		}
	}
	return g
}

// nextOf is the next event of an event's thread, -1 if there is none.
func nextOf(g api.Graph, at int) int {
	for i := at + 1; i < len(g.Events); i++ {
		if g.Events[i].Thread == g.Events[at].Thread {
			return i
		}
	}
	return -1
}

// ring is a graph whose threads lead from one cell to the next, by an access of the one and an access of the other; a write is at times that of a pair; in between stands at times a fence, a pair of a cell of the thread's own, or a read of what was written first. strong: how many of ten modes are the tongue's strongest. Such graphs break Global by itself, or just not.
func ring(roll func(n int) int, u tongue, strong int) api.Graph {
	n := 2 + roll(3)
	g := initial(2*n, u.weak)
	mode := func(kind int) int {
		l := u.of(kind)
		if roll(10) < strong {
			return l[len(l)-1]
		}
		return l[roll(len(l))]
	}
	lay := func(thread, kind, loc int) {
		g.Events = append(g.Events, api.Event{Thread: thread, Kind: kind, Loc: loc, Mode: mode(kind)})
	}
	shape := roll(5) // all threads write and read, read and write, write twice; or any
	access := func(thread, loc int) {
		first := thread == loc
		if shape == 2 || shape == 0 && first || shape == 1 && !first || shape > 2 && roll(2) == 0 {
			if roll(4) == 0 {
				lay(thread, api.Read, loc)
			}
			lay(thread, api.Write, loc)
		} else {
			lay(thread, api.Read, loc)
		}
	}
	for t := range n {
		access(t, t)
		switch roll(6) {
		case 0, 1:
			lay(t, api.Fence, -1)
		case 2:
			lay(t, api.Read, n+t)
			lay(t, api.Write, n+t)
		case 3:
			lay(t, api.Read, t)
		}
		access(t, (t+1)%n)
	}
	if roll(3) == 0 { // what may come between the two of a thread's own pair
		lay(n, api.Write, n+roll(n))
	}
	return ringValues(g, roll, shape)
}

// ringValues gives each write a value of its own and each read its write: one that follows a write of its thread and cell reads that, others the initial write or another thread's.
func ringValues(g api.Graph, roll func(n int) int, shape int) api.Graph {
	for i, e := range g.Events[g.Cells:] {
		if e.Kind == api.Write {
			g.Events[g.Cells+i].Val = uint64(g.Cells + i)
			g.Co[e.Loc] = slices.Insert(g.Co[e.Loc], 1+roll(len(g.Co[e.Loc])), g.Cells+i)
		}
	}
	for i, e := range g.Events {
		if e.Kind != api.Read {
			continue
		}
		l := g.Co[e.Loc]
		w := l[roll(len(l))]
		if shape < 2 {
			w = l[min(shape, len(l)-1)]
		}
		if n := nextOf(g, i); n >= 0 && g.Events[n].Kind == api.Write && g.Events[n].Loc == e.Loc && roll(3) > 0 {
			w = l[slices.Index(l, n)-1]
		}
		for _, own := range l {
			if g.Events[own].Thread == e.Thread && own < i {
				w = own
			}
		}
		g.Events[i].Val = g.Events[w].Val
		g.Rf = append(g.Rf, api.Pair{A: w, B: i})
	}
	return joined(g, roll)
}

// depend gives a graph of words dependencies: neither Sc nor Tso may look at them.
func depend(g *api.Graph, roll func(n int) int) {
	for a, e := range g.Events {
		for b := a + 1; b < len(g.Events) && e.Kind == api.Read; b++ {
			f := g.Events[b]
			if f.Thread != e.Thread {
				continue
			}
			if f.Kind != api.Fence && roll(4) == 0 {
				g.Addr = append(g.Addr, api.Pair{A: a, B: b})
			}
			if f.Kind == api.Write && roll(4) == 0 {
				g.Data = append(g.Data, api.Pair{A: a, B: b})
			}
			if roll(4) == 0 {
				g.Ctrl = append(g.Ctrl, api.Pair{A: a, B: b})
			}
		}
	}
}

// many are made graphs of all sorts, of one tongue.
func many(n int, u tongue) []api.Graph {
	var out []api.Graph
	for i := range n {
		roll := dice(uint64(i))
		var g api.Graph
		if i%10 < 5 {
			g = made(roll, u, []int{1, 2, 4, 8, 1000}[i%5], 14)
		} else {
			g = ring(roll, u, []int{0, 3, 5, 7, 10}[i%5])
		}
		if u.name == words.name {
			depend(&g, roll)
		}
		out = append(out, g)
	}
	return out
}

// What is tried has of all that a graph may have, and of all answers.
func TestMadeGraphs(t *testing.T) {
	for _, u := range tongues {
		got := map[string]int{}
		for _, g := range many(3000, u) {
			if rule, at := graph.Check(g, u.name == words.name); rule != 0 {
				t.Fatalf("a made graph breaks the rule %d at %d: %+v", rule, at, g)
			}
			got["Sc "+string("0OA"[sc.of(t, g)])]++
			a := tso.of(t, g)
			got["Tso "+string("0OAG"[a])]++
			if a == 0 && len(g.Rmw) > 1 {
				got["pairs in a consistent one"]++
			}
			if a == 0 && sc.of(t, g) != 0 {
				got["Tso alone"]++
			}
			got["threads "+string("01234"[min(4, len(threadsOf(g)))])]++
		}
		for _, what := range []string{"Sc 0", "Sc O", "Sc A", "Tso 0", "Tso O", "Tso A", "Tso G", "pairs in a consistent one", "Tso alone", "threads 1", "threads 2", "threads 3", "threads 4"} {
			if got[what] < 25 {
				t.Errorf("not all is tried: %s: %s: %d", u.name, what, got[what])
			}
		}
	}
}

// threadsOf are the events of each thread, in po, the threads in the order of their first ones.
func threadsOf(g api.Graph) [][]int {
	var out [][]int
	place := map[int]int{}
	for i, e := range g.Events[g.Cells:] {
		if _, ok := place[e.Thread]; !ok {
			place[e.Thread] = len(out)
			out = append(out, nil)
		}
		out[place[e.Thread]] = append(out[place[e.Thread]], g.Cells+i)
	}
	return out
}
