package graph_test

import (
	"fmt"
	"reflect"
	"runtime"
	"slices"
	"testing"
	"unsafe"

	"sextant/api"
	"sextant/graph"
	"sextant/rel"
)

func TestP8_5WhatFollows(t *testing.T) {
	for _, words := range []bool{false, true} {
		for _, g := range right(words) {
			f := derived(t, g)
			if !rel.Acyclic(f.Po) || !rel.Acyclic(f.Co) || !rel.Acyclic(f.Rmw) {
				t.Fatalf("P8.5: a cycle: %+v", g)
			}
			if !rel.Equal(f.Fr, rel.Comp(rel.Inverse(f.Rf), f.Co)) {
				t.Fatalf("P8.5: Fr %v", f.Fr.Pairs())
			}
			sources := rel.Inverse(f.Rf)
			for r, is := range f.Reads {
				if n := rel.Cut(sources, one(len(g.Events), r), f.Writes).Size(); is && n != 1 || !is && n != 0 {
					t.Fatalf("P8.5: the event %d has %d writes", r, n)
				}
			}
			for a := range g.Events {
				for b := range g.Events {
					if a != b && f.Writes[a] && f.Writes[b] && f.Same.Has(a, b) && f.Co.Has(a, b) == f.Co.Has(b, a) {
						t.Fatalf("P8.5: the writes %d and %d in Co", a, b)
					}
				}
			}
			if !rel.Within(f.Rmw, f.Po) || !rel.Within(f.Rmw, f.Same) || !rel.Within(rel.Union(f.Rf, f.Co, f.Fr), f.Same) || !rel.Within(rel.Union(f.Addr, f.Data, f.Ctrl), f.Po) {
				t.Fatalf("P8.5: pairs that no well-formed graph has: %+v", g)
			}
		}
	}
}

func one(n, at int) []bool {
	out := make([]bool, n)
	out[at] = true
	return out
}

// No graph with an event behind the initial ones is well-formed both ways: whatever modes its events have.
func TestP8_5NotBothWays(t *testing.T) {
	both := 0
	try := func(g api.Graph) {
		r, _ := graph.Check(g, false)
		w, _ := graph.Check(g, true)
		if r == 0 && w == 0 {
			both++
			if len(g.Events) > g.Cells {
				t.Fatalf("P8.5: well-formed both ways: %+v", g)
			}
		}
	}
	for first := range 18 {
		for mode := range 18 {
			for cells := range 2 {
				g := initial(cells, false)
				try(withModes(g, []int{first}[:cells]...))
				for _, e := range []api.Event{read(0, 0, 0, mode), write(0, 0, 0, mode), fence(0, mode)} {
					h := copyGraph(g)
					h.Events = append(h.Events, e)
					if cells == 1 {
						h.Events[0].Mode = first
					}
					if e.Kind == api.Read {
						h.Rf = pairs(0, cells)
					} else if e.Kind == api.Write && cells == 1 {
						h.Co[0] = append(h.Co[0], 1)
					}
					try(h)
				}
			}
		}
	}
	for i := range 2000 {
		g := made(dice(uint64(i)), i%2 == 0)
		try(g)
		spoil(&g, dice(uint64(i)))
		try(g)
	}
	if both == 0 {
		t.Error("not all is tried: no graph is well-formed both ways")
	}
}

// wild is a graph of any numbers.
func wild(roll func(n int) int) api.Graph {
	number := func() int { return []int{far[roll(len(far))], roll(6) - 1}[roll(2)] }
	g := api.Graph{Cells: number()}
	for range roll(6) {
		g.Events = append(g.Events, api.Event{Thread: number(), Kind: number(), Loc: number(), Val: uint64(number()), Mode: number()})
	}
	for _, l := range lists(&g) {
		for range roll(4) {
			*l = append(*l, api.Pair{A: number(), B: number()})
		}
	}
	for range roll(4) {
		var l []int
		for range roll(4) {
			l = append(l, number())
		}
		g.Co = append(g.Co, l)
	}
	return g
}

// callAll makes every call; refused tells whether the graph is not well-formed.
func callAll(g api.Graph) (refused bool) {
	graph.Check(g, false)
	graph.Check(g, true)
	graph.With(g, 1, -1, 99)
	graph.Thread(g, -1)
	_, e := graph.Derive(g)
	graph.Final(g)
	return e != api.OK
}

// Far numbers in every field, by themselves and all at once: nothing panics.
func TestP8_6FarNumbers(t *testing.T) {
	for i := range 20000 {
		g := wild(dice(uint64(i)))
		for _, words := range []bool{false, true} {
			rule, at := model(g, words)
			holdCheck(t, fmt.Sprint("wild graph ", i), g, words, rule, at)
		}
		callAll(g)
	}
	for _, words := range []bool{false, true} {
		fields := func(g *api.Graph) []*int {
			out := []*int{&g.Cells}
			for i := range g.Events {
				e := &g.Events[i]
				out = append(out, &e.Thread, &e.Kind, &e.Loc, &e.Mode)
			}
			for _, l := range lists(g) {
				for i := range *l {
					out = append(out, &(*l)[i].A, &(*l)[i].B)
				}
			}
			for _, l := range g.Co {
				for i := range l {
					out = append(out, &l[i])
				}
			}
			return out
		}
		g := several(words)
		for i := range fields(&g) {
			for _, n := range far {
				h := copyGraph(g)
				*fields(&h)[i] = n
				rule, at := model(h, words)
				holdCheck(t, fmt.Sprint("field ", i, " is ", n), h, words, rule, at)
				if refused := callAll(h); refused != (rule != 0) {
					t.Errorf("P8.2: field %d is %d: refused %v", i, n, refused)
				}
			}
		}
	}
}

// withRoom is a copy of a graph whose lists have room behind them, with something in it.
func withRoom(g api.Graph) api.Graph {
	out := copyGraph(g)
	out.Events = append(out.Events, api.Event{Val: 77}, api.Event{Loc: 77})[:len(g.Events)]
	for _, l := range lists(&out) {
		*l = append(*l, api.Pair{A: 77}, api.Pair{B: 77})[:len(*l)]
	}
	for c, l := range out.Co {
		out.Co[c] = append(l, 77, 78)[:len(l)]
	}
	out.Co = append(out.Co, []int{77}, nil)[:len(g.Co)]
	return out
}

// widened is a copy of a graph with what stands in the room behind its lists.
func widened(g api.Graph) api.Graph {
	g.Events = g.Events[:cap(g.Events)]
	for _, l := range lists(&g) {
		*l = (*l)[:cap(*l)]
	}
	co := slices.Clone(g.Co[:cap(g.Co)])
	for c, l := range co {
		co[c] = l[:cap(l)]
	}
	g.Co = co
	return copyGraph(g)
}

// some are graphs of all sorts.
func some() []api.Graph {
	out := slices.Concat(right(false)[:40], right(true)[:40])
	for _, words := range []bool{false, true} {
		for _, x := range breaks(words) {
			g := several(words)
			x.turn(&g)
			out = append(out, g)
		}
	}
	for i := range 100 {
		out = append(out, wild(dice(uint64(7000+i))))
	}
	return out
}

// wipe changes all that a graph's lists have.
func wipe(g api.Graph) {
	clear(g.Events[:cap(g.Events)])
	for _, l := range lists(&g) {
		clear((*l)[:cap(*l)])
	}
	for _, l := range g.Co {
		clear(l[:cap(l)])
	}
	clear(g.Co[:cap(g.Co)])
}

// told is all that the calls tell of a graph, as plain values.
func told(g api.Graph) []any {
	var out []any
	for _, words := range []bool{false, true} {
		rule, at := graph.Check(g, words)
		out = append(out, rule, at)
	}
	f, e := graph.Derive(g)
	l, h := graph.Final(g)
	out = append(out, e, h, fmt.Sprint(l), fmt.Sprint(graph.With(g, 1, 5, 11)), fmt.Sprint(graph.Thread(g, 0)))
	return append(out, plainFacts(f)...)
}

func relations(f graph.Facts) []*rel.Rel {
	return []*rel.Rel{f.Po, f.Rf, f.Co, f.Fr, f.Rmw, f.Same, f.Ext, f.Addr, f.Data, f.Ctrl}
}

func plainFacts(f graph.Facts) []any {
	var out []any
	for _, r := range relations(f) {
		if r != nil {
			out = append(out, r.Len(), fmt.Sprint(r.Pairs()))
		}
	}
	return append(out, fmt.Sprint(f.Reads), fmt.Sprint(f.Writes), fmt.Sprint(f.Fences))
}

func TestP8_6NotChangedNotKept(t *testing.T) {
	for i, g := range some() {
		want := told(g)
		a := withRoom(g)
		before := widened(a)
		if !reflect.DeepEqual(told(a), want) {
			t.Errorf("P8.6, R4: case %d: the room behind a list is seen", i)
		}
		f, _ := graph.Derive(a)
		l, _ := graph.Final(a)
		modes := []int{1, 5, 11, 77}
		with := graph.With(a, modes[:3]...)
		thread := graph.Thread(a, 0)
		if !reflect.DeepEqual(widened(a), before) || !slices.Equal(modes, []int{1, 5, 11, 77}) {
			t.Errorf("P8.6, R4: case %d: what is handed in is changed", i)
		}
		wipe(a)
		clear(modes)
		if got := append([]any{fmt.Sprint(l), fmt.Sprint(with), fmt.Sprint(thread)}, plainFacts(f)...); !reflect.DeepEqual(got, want[6:]) {
			t.Errorf("P8.6, R4: case %d: what is handed in is kept", i)
		}
	}
}

// span is the memory of a list, spare room too.
type span struct{ low, high uintptr }

func spanOf[T any](l []T) span {
	low := uintptr(unsafe.Pointer(unsafe.SliceData(l)))
	return span{low, low + uintptr(cap(l))*reflect.TypeFor[T]().Size()}
}

func TestP8_6NewMemory(t *testing.T) {
	for i, g := range some() {
		spans := []span{spanOf(g.Events), spanOf(g.Co)}
		for _, l := range lists(&g) {
			spans = append(spans, spanOf(*l))
		}
		for _, l := range g.Co {
			spans = append(spans, spanOf(l))
		}
		given := len(spans)
		modes := []int{1, 11}
		var held []any // so that no memory is given out anew while the spans are held against each other
		for range 2 {
			f, _ := graph.Derive(g)
			l, _ := graph.Final(g)
			with, thread := graph.With(g, modes...), graph.Thread(g, 0)
			held = append(held, modes, f, l, with, thread)
			spans = append(spans, spanOf(f.Reads), spanOf(f.Writes), spanOf(f.Fences), spanOf(l), spanOf(with), spanOf(thread))
		}
		for k, a := range spans[given:] {
			for _, b := range append(spans[:given+k:given+k], spanOf(modes)) {
				if a.low < a.high && b.low < b.high && a.low < b.high && b.low < a.high {
					t.Fatalf("P8.6, R4: case %d: two lists share memory", i)
				}
			}
		}
		runtime.KeepAlive(held)
	}
}

// Each relation that is told is one by itself: what is put into it is seen in no other one, nor in what is told later.
func TestP8_6NewRelations(t *testing.T) {
	for _, words := range []bool{false, true} {
		g := several(words)
		want := told(g)
		n := len(relations(graph.Facts{}))
		for k := range n {
			f, h := derived(t, g), derived(t, g)
			r := relations(f)[k]
			for a := range r.Len() {
				for b := range r.Len() {
					r.Put(a, b, !r.Has(a, b))
				}
			}
			for m, other := range relations(f) {
				if m != k && !rel.Equal(other, relations(h)[m]) {
					t.Errorf("P8.6, R4: the relations %d and %d have something in common", k, m)
				}
			}
			if !reflect.DeepEqual(told(g), want) {
				t.Errorf("P8.6, R4: what is put into the relation %d is told later", k)
			}
		}
	}
}

// The same every time, in goroutines at the same time too.
func TestR5AtTheSameTime(t *testing.T) {
	all := some()
	var want [][]any
	for _, g := range all {
		want = append(want, told(g))
	}
	failed := make(chan int)
	for range 8 {
		go func() {
			for i, g := range all {
				if !reflect.DeepEqual(told(g), want[i]) {
					failed <- i
					return
				}
			}
			failed <- -1
		}()
	}
	for range 8 {
		if i := <-failed; i >= 0 {
			t.Errorf("R5: case %d: told twice, not the same", i)
		}
	}
}
