package graph_test

import (
	"slices"
	"testing"

	"sextant/api"
	"sextant/graph"
)

// model is Check, told rule by rule as all places that are wrong: of these the least is told.
func model(g api.Graph, words bool) (rule, at int) {
	rules := []func(g api.Graph, words bool) []int{wrongSizes, wrongInitials, wrongOthers, wrongRf, wrongCo, wrongRmw, wrongAddr, wrongData, wrongCtrl}
	for i, f := range rules {
		if l := f(g, words); len(l) > 0 {
			return i + 1, slices.Min(l)
		}
	}
	return 0, 0
}

func wrongSizes(g api.Graph, words bool) []int {
	if g.Cells >= 0 && g.Cells <= 4096 && g.Cells <= len(g.Events) && len(g.Events) <= 256 {
		return nil
	}
	return []int{0}
}

func wrongInitials(g api.Graph, words bool) []int {
	var out []int
	for c := range g.Cells {
		e := g.Events[c]
		if e.Thread != -1 || e.Kind != api.Write || e.Loc != c || e.Val != 0 || words && e.Mode != 11 || !words && e.Mode != 1 {
			out = append(out, c)
		}
	}
	return out
}

func wrongOthers(g api.Graph, words bool) []int {
	var out []int
	for i, e := range g.Events {
		if i < g.Cells {
			continue
		}
		ok := e.Thread > -1 && e.Thread < 64 && e.Kind > 0 && e.Kind < 4 && slices.Contains(modesOf(e.Kind, words), e.Mode)
		if ok && e.Kind == api.Fence {
			ok = e.Loc == -1 && e.Val == 0
		} else if ok {
			ok = e.Loc > -1 && e.Loc < g.Cells
		}
		if !ok {
			out = append(out, i)
		}
	}
	return out
}

func eventAt(g api.Graph, i int) api.Event {
	if i < 0 || i >= len(g.Events) {
		return api.Event{}
	}
	return g.Events[i]
}

func wrongRf(g api.Graph, words bool) []int {
	var reads, out []int
	for i, e := range g.Events {
		if e.Kind == api.Read {
			reads = append(reads, i)
		}
	}
	for i := range max(len(reads), len(g.Rf)) {
		if i == len(reads) || i == len(g.Rf) {
			return append(out, i)
		}
		w, r := eventAt(g, g.Rf[i].A), g.Events[reads[i]]
		w.Thread, w.Mode, r.Thread, r.Mode, r.Kind = 0, 0, 0, 0, api.Write
		if g.Rf[i].B != reads[i] || w != r {
			out = append(out, i)
		}
	}
	return out
}

func wrongCo(g api.Graph, words bool) []int {
	var out []int
	for c := range min(g.Cells, len(g.Co)) {
		times := map[int]int{}
		for _, i := range g.Co[c] {
			times[i]++
		}
		ok := len(g.Co[c]) > 0 && g.Co[c][0] == c
		for i, n := range times {
			ok = ok && n == 1 && eventAt(g, i).Kind == api.Write && eventAt(g, i).Loc == c
		}
		for i, e := range g.Events {
			ok = ok && (e.Kind != api.Write || e.Loc != c || times[i] == 1)
		}
		if !ok {
			out = append(out, c)
		}
	}
	if len(g.Co) != g.Cells {
		out = append(out, min(len(g.Co), g.Cells))
	}
	return out
}

func wrongRmw(g api.Graph, words bool) []int {
	var out []int
	for i, p := range g.Rmw {
		r, w := eventAt(g, p.A), eventAt(g, p.B)
		ok := r.Kind == api.Read && w.Kind == api.Write && r.Thread == w.Thread && r.Loc == w.Loc && nextOf(g, p.A) == p.B
		for _, q := range g.Rmw[:i] {
			ok = ok && q.A < p.A
		}
		if !ok {
			out = append(out, i)
		}
	}
	return out
}

func wrongDependencies(g api.Graph, words bool, l []api.Pair, kinds ...int) []int {
	var out []int
	for i, p := range l {
		r, e := eventAt(g, p.A), eventAt(g, p.B)
		ok := words && r.Kind == api.Read && slices.Contains(kinds, e.Kind) && r.Thread == e.Thread && p.A < p.B
		for _, q := range l[:i] {
			ok = ok && (q.A < p.A || q.A == p.A && q.B < p.B)
		}
		if !ok {
			out = append(out, i)
		}
	}
	return out
}

func wrongAddr(g api.Graph, words bool) []int {
	return wrongDependencies(g, words, g.Addr, api.Read, api.Write)
}

func wrongData(g api.Graph, words bool) []int {
	return wrongDependencies(g, words, g.Data, api.Write)
}

func wrongCtrl(g api.Graph, words bool) []int {
	return wrongDependencies(g, words, g.Ctrl, api.Read, api.Write, api.Fence)
}

// Spoilt graphs: Check is the model's, Derive and Final are told by it.
func TestP8_1SpoiltGraphs(t *testing.T) {
	got := map[[2]int]int{}
	for i := range 60000 {
		roll := dice(uint64(i))
		g := made(roll, i%2 == 1)
		if i%30 < 4 {
			g = several(i%2 == 1)
		}
		for range 1 + roll(3) {
			spoil(&g, roll)
		}
		right := false
		for _, words := range []bool{false, true} {
			rule, at := model(g, words)
			if r, a := graph.Check(g, words); r != rule || a != at {
				t.Fatalf("P8.1: case %d, words %v: %d, %d; want %d, %d: %+v", i, words, r, a, rule, at, g)
			}
			right = right || rule == 0
			if words == (i%2 == 1) {
				got[[2]int{rule, min(at, 1)}]++
			}
		}
		_, e := graph.Derive(g)
		_, h := graph.Final(g)
		if (e == api.OK) != right || h != e {
			t.Fatalf("P8.2, P8.4: case %d: %v, %v: %+v", i, e, h, g)
		}
	}
	for rule := range 10 {
		for at := range 2 {
			if got[[2]int{rule, at}] < 50 && (rule > 1 || at == 0) {
				t.Errorf("not all is tried: rule %d, place %d: %d", rule, at, got[[2]int{rule, at}])
			}
		}
	}
}
