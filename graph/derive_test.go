package graph_test

import (
	"math"
	"reflect"
	"slices"
	"testing"

	"sextant/api"
	"sextant/graph"
	"sextant/rel"
)

// derived is Derive of a graph that is well-formed.
func derived(t *testing.T, g api.Graph) graph.Facts {
	t.Helper()
	f, e := graph.Derive(g)
	if e != api.OK {
		t.Fatalf("P8.2: %v of %+v", e, g)
	}
	return f
}

func TestP8_2Example(t *testing.T) {
	f := derived(t, example())
	for _, c := range []struct {
		what string
		r    *rel.Rel
		want []api.Pair
	}{
		{"Po", f.Po, pairs(2, 3)}, {"Rf", f.Rf, pairs(1, 2)}, {"Co", f.Co, pairs(0, 1)}, {"Fr", f.Fr, nil}, {"Rmw", f.Rmw, nil},
		{"Same less (p, p)", rel.Minus(f.Same, rel.Star(rel.New(4))), pairs(0, 1, 0, 2, 1, 0, 1, 2, 2, 0, 2, 1)},
		{"Same", f.Same, pairs(0, 0, 0, 1, 0, 2, 1, 0, 1, 1, 1, 2, 2, 0, 2, 1, 2, 2)},
		{"Ext", f.Ext, pairs(0, 1, 0, 2, 0, 3, 1, 0, 1, 2, 1, 3, 2, 0, 2, 1, 3, 0, 3, 1)},
		{"Addr", f.Addr, nil}, {"Data", f.Data, nil}, {"Ctrl", f.Ctrl, nil},
	} {
		if c.r.Len() != 4 || !slices.Equal(c.r.Pairs(), c.want) {
			t.Errorf("P8.2: %s: %d points, %v; want %v", c.what, c.r.Len(), c.r.Pairs(), c.want)
		}
	}
	for what, c := range map[string][2][]bool{"Reads": {f.Reads, {false, false, true, false}}, "Writes": {f.Writes, {true, true, false, false}}, "Fences": {f.Fences, {false, false, false, true}}} {
		if !slices.Equal(c[0], c[1]) {
			t.Errorf("P8.2: %s: %v", what, c[0])
		}
	}
}

// What is derived of the graph of several threads, written out.
func TestP8_2Several(t *testing.T) {
	for _, words := range []bool{false, true} {
		g := several(words)
		f := derived(t, g)
		thread := map[int][]int{0: {3, 5, 6, 11, 16, 17}, 5: {4, 8, 10}, 63: {7, 9, 12, 13, 14}, 2: {15}}
		po := rel.New(18)
		for _, l := range thread {
			for i, b := range l {
				for _, a := range l[:i] {
					po.Put(a, b, true)
				}
			}
		}
		for what, c := range map[string][2]*rel.Rel{
			"Po":  {f.Po, po},
			"Co":  {f.Co, rel.Of(18, pairs(0, 14, 0, 4, 0, 5, 14, 4, 14, 5, 4, 5, 1, 9, 2, 10, 2, 11, 10, 11))},
			"Fr":  {f.Fr, rel.Of(18, pairs(3, 5, 7, 9, 8, 10, 8, 11, 12, 11, 15, 4, 15, 5))},
			"Rmw": {f.Rmw, rel.Of(18, pairs(3, 5, 7, 9, 8, 10))},
			"Rf":  {f.Rf, rel.Of(18, pairs(4, 3, 1, 7, 2, 8, 10, 12, 14, 15, 9, 17))},
		} {
			if !rel.Equal(c[0], c[1]) {
				t.Errorf("P8.2: %s: %v; want %v", what, c[0].Pairs(), c[1].Pairs())
			}
		}
		if words != (f.Addr.Size() == 5 && f.Data.Size() == 3 && f.Ctrl.Size() == 7) {
			t.Errorf("P8.2: Addr %v, Data %v, Ctrl %v", f.Addr.Pairs(), f.Data.Pairs(), f.Ctrl.Pairs())
		}
	}
}

// inOrder tells whether two events stand in one list of Co, the one ahead of the other.
func inOrder(g api.Graph, a, b int) bool {
	for _, l := range g.Co {
		if i := slices.Index(l, a); i >= 0 && slices.Index(l, b) > i {
			return true
		}
	}
	return false
}

// isOf tells whether a pair stands in a list.
func isOf(l []api.Pair) func(a, b int) bool {
	return func(a, b int) bool { return slices.Contains(l, api.Pair{A: a, B: b}) }
}

// Every pair of events of well-formed graphs, against the document's words.
func TestP8_2AllPairs(t *testing.T) {
	for _, words := range []bool{false, true} {
		for _, g := range right(words) {
			f := derived(t, g)
			l, n := g.Events, len(g.Events)
			agrees(t, "P8.2: Po", f.Po, n, func(a, b int) bool { return a < b && l[a].Thread >= 0 && l[a].Thread == l[b].Thread })
			agrees(t, "P8.2: Rf", f.Rf, n, isOf(g.Rf))
			agrees(t, "P8.2: Co", f.Co, n, func(a, b int) bool { return inOrder(g, a, b) })
			own := map[int]int{}
			for _, p := range g.Rf {
				own[p.B] = p.A
			}
			agrees(t, "P8.2: Fr", f.Fr, n, func(a, b int) bool { return l[a].Kind == api.Read && inOrder(g, own[a], b) })
			agrees(t, "P8.2: Rmw", f.Rmw, n, isOf(g.Rmw))
			agrees(t, "P8.2: Same", f.Same, n, func(a, b int) bool { return l[a].Loc >= 0 && l[b].Loc >= 0 && l[a].Loc == l[b].Loc })
			agrees(t, "P8.2: Ext", f.Ext, n, func(a, b int) bool { return l[a].Thread != l[b].Thread })
			agrees(t, "P8.2: Addr", f.Addr, n, isOf(g.Addr))
			agrees(t, "P8.2: Data", f.Data, n, isOf(g.Data))
			agrees(t, "P8.2: Ctrl", f.Ctrl, n, isOf(g.Ctrl))
			for kind, is := range [][]bool{api.Read: f.Reads, api.Write: f.Writes, api.Fence: f.Fences} {
				want := make([]bool, n)
				for i, e := range l {
					want[i] = e.Kind == kind
				}
				if kind > 0 && !slices.Equal(is, want) {
					t.Fatalf("P8.2: of the kind %d: %v; want %v", kind, is, want)
				}
			}
		}
	}
}

// With EGRAPH all is nil: of each rule's breaks, and of what is half the source's, half the words'.
func TestP8_2Refused(t *testing.T) {
	all := []api.Graph{{Cells: -1}, {Co: [][]int{nil}}, withModes(example(), api.Plain), withModes(example(), api.Plain, api.Plain, api.Acquire), withModes(example(), api.Rlx, api.Plain)}
	for _, words := range []bool{false, true} {
		for _, x := range breaks(words) {
			g := several(words)
			x.turn(&g)
			all = append(all, g)
		}
	}
	for i, g := range all {
		f, e := graph.Derive(g)
		if e != api.EGRAPH || !reflect.ValueOf(f).IsZero() {
			t.Errorf("P8.2, R2: case %d: %v, %+v", i, e, f)
		}
		if l, e := graph.Final(g); e != api.EGRAPH || len(l) != 0 {
			t.Errorf("P8.4, R2: case %d: %v, %v", i, e, l)
		}
	}
}

func TestP8_3Example(t *testing.T) {
	g := example()
	for thread, want := range map[int][]int{1: {2, 3}, -1: {0}, 5: nil, 0: {1}, math.MinInt: nil, math.MaxInt: nil, 64: nil} {
		if l := graph.Thread(g, thread); !slices.Equal(l, want) {
			t.Errorf("P8.3: Thread %d: %v; want %v", thread, l, want)
		}
	}
	for _, c := range []struct {
		modes []int
		want  []bool
	}{
		{[]int{2, 5}, []bool{false, false, true, true}}, {[]int{5, 2, 5}, []bool{false, false, true, true}}, {nil, make([]bool, 4)}, {[]int{}, make([]bool, 4)},
		{[]int{1}, []bool{true, true, false, false}}, {[]int{math.MinInt, 99, 0, -1, math.MaxInt, 11}, make([]bool, 4)}, {[]int{1, 2, 3, 4, 5}, []bool{true, true, true, true}},
	} {
		if l := graph.With(g, c.modes...); !slices.Equal(l, c.want) {
			t.Errorf("P8.3: With %v: %v; want %v", c.modes, l, c.want)
		}
	}
	if l := graph.With(api.Graph{}, 1); len(l) != 0 {
		t.Errorf("P8.3: With of no events: %v", l)
	}
	if l := graph.Thread(api.Graph{}, 0); len(l) != 0 {
		t.Errorf("P8.3: Thread of no events: %v", l)
	}
}

// With and Thread take any graph: whatever its events are, and however many.
func TestP8_3AnyGraph(t *testing.T) {
	var all []api.Graph
	for _, words := range []bool{false, true} {
		all = append(all, right(words)...)
		for _, x := range breaks(words) {
			g := several(words)
			x.turn(&g)
			all = append(all, g)
		}
	}
	for i := range 300 {
		all = append(all, wild(dice(uint64(i))))
	}
	all = append(all, api.Graph{Cells: -5, Events: slices.Repeat(several(false).Events, 5000)})
	for i, g := range all {
		modes := []int{far[i%len(far)], i % 17, 11, 5}[:i%5*4/5]
		with := graph.With(g, modes...)
		if len(with) != len(g.Events) {
			t.Fatalf("P8.3: case %d: %d truths of %d events", i, len(with), len(g.Events))
		}
		for k, e := range g.Events {
			if with[k] != slices.Contains(modes, e.Mode) {
				t.Fatalf("P8.3: case %d: With %v: event %d: %v", i, modes, k, with[k])
			}
		}
		for _, thread := range append(far, 21, 42) {
			var want []int
			for k, e := range g.Events {
				if e.Thread == thread {
					want = append(want, k)
				}
			}
			if l := graph.Thread(g, thread); !slices.Equal(l, want) {
				t.Fatalf("P8.3: case %d: Thread %d: %v; want %v", i, thread, l, want)
			}
		}
	}
}

func TestP8_4Final(t *testing.T) {
	for i, c := range []struct {
		g    api.Graph
		want []uint64
	}{
		{example(), []uint64{7}}, {initial(1, false), []uint64{0}}, {initial(3, true), []uint64{0, 0, 0}}, {api.Graph{}, nil},
		{several(false), []uint64{6, 9, 8}}, {several(true), []uint64{6, 9, 8}},
		{api.Graph{Cells: 1, Events: []api.Event{write(-1, 0, 0, 1), write(0, 0, math.MaxUint64, 1), write(0, 0, 2, 1)}, Co: [][]int{{0, 2, 1}}}, []uint64{math.MaxUint64}},
	} {
		if l, e := graph.Final(c.g); e != api.OK || !slices.Equal(l, c.want) {
			t.Errorf("P8.4: case %d: %v, %v; want %v", i, l, e, c.want)
		}
	}
	for _, words := range []bool{false, true} {
		for _, g := range right(words) {
			l, e := graph.Final(g)
			if e != api.OK || len(l) != g.Cells {
				t.Fatalf("P8.4: %v, %v of %d cells", l, e, g.Cells)
			}
			for c, v := range l {
				if last := g.Co[c][len(g.Co[c])-1]; v != g.Events[last].Val {
					t.Fatalf("P8.4: cell %d: %d; the last write is %d", c, v, last)
				}
			}
		}
	}
}
