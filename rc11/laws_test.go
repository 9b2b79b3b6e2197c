package rc11_test

import (
	"fmt"
	"reflect"
	"runtime"
	"slices"
	"testing"
	"unsafe"

	"sextant/api"
	"sextant/graph"
	"sextant/rc11"
	"sextant/rel"
)

// A consistent graph stays so with each of its modes made weaker, one step, and so all steps.
func TestP10_3WeakerModes(t *testing.T) {
	tried := map[[3]int]int{}
	for i, g := range many(3000) {
		if axiomOf(t, g) != 0 {
			continue
		}
		for at, e := range g.Events {
			for _, m := range weaker(e.Kind, e.Mode) {
				h := copyGraph(g)
				h.Events[at].Mode = m
				if a := axiomOf(t, h); a != 0 {
					t.Fatalf("P10.3: case %d: the event %d with the mode %d breaks the axiom %d: %+v", i, at, m, a, g)
				}
				tried[[3]int{e.Kind, e.Mode, m}]++
			}
		}
	}
	if len(tried) != 7 {
		t.Errorf("not all is tried: %v", tried)
	}
}

// A graph that is forbidden stays so with each of its modes made stronger; one that is allowed may not.
func TestP10_3StrongerModes(t *testing.T) {
	stays, lost := 0, 0
	for i, g := range many(3000) {
		before := axiomOf(t, g)
		for at, e := range g.Events {
			for m := X; m <= S && at >= g.Cells; m++ {
				if !slices.Contains(weaker(e.Kind, m), e.Mode) {
					continue
				}
				h := copyGraph(g)
				h.Events[at].Mode = m
				after := axiomOf(t, h)
				if before != 0 && after == 0 {
					t.Fatalf("P10.3: case %d: forbidden, but not with the event %d of the mode %d: %+v", i, at, m, g)
				}
				if before == 0 && after != 0 {
					lost++
				} else if before != 0 {
					stays++
				}
			}
		}
	}
	if min(stays, lost) < 30 {
		t.Errorf("not all is tried: %d, %d", stays, lost)
	}
}

// With its events listed in another order that keeps po a graph has the same relations, but for the numbers, and breaks the same axiom.
func TestP10_3AnotherOrder(t *testing.T) {
	moved := 0
	for i, g := range many(3000) {
		h, to := listed(g, dice(uint64(90000+i)))
		if rule, at := graph.Check(h, false); rule != 0 {
			t.Fatalf("case %d: the other order breaks the rule %d at %d", i, rule, at)
		}
		if axiomOf(t, h) != axiomOf(t, g) {
			t.Fatalf("P10.3: case %d: %d, and %d in another order: %+v", i, axiomOf(t, g), axiomOf(t, h), g)
		}
		f, k := derived(t, g), derived(t, h)
		for j, r := range relations(f) {
			want := rel.Of(r.Len(), turned(r.Pairs(), to, func(p api.Pair) int { return 0 }))
			if !rel.Equal(relations(k)[j], want) {
				t.Fatalf("P10.3: case %d: %s in another order: %+v", i, relationNames[j], g)
			}
		}
		if !slices.Equal(g.Events, h.Events) {
			moved++
		}
	}
	if moved < 1000 {
		t.Errorf("not all is tried: %d", moved)
	}
}

// The ends of sw, in any graph; what is acyclic, and how eco goes, in a consistent one.
func TestP10_3WhatFollows(t *testing.T) {
	consistent := 0
	for i, g := range many(3000) {
		f := derived(t, g)
		for _, p := range f.Sw.Pairs() {
			a, b := g.Events[p.A], g.Events[p.B]
			if a.Kind == api.Read || !slices.Contains([]int{R, B, S}, a.Mode) || b.Kind == api.Write || !slices.Contains([]int{A, B, S}, b.Mode) {
				t.Fatalf("P10.3: case %d: %v is in sw: %+v", i, p, g)
			}
		}
		if axiomOf(t, g) != 0 {
			continue
		}
		consistent++
		base, _ := graph.Derive(g)
		if !rel.Acyclic(rel.Union(base.Po, base.Rf, f.Sw)) {
			t.Fatalf("P10.3: case %d: a cycle of po, rf and sw: %+v", i, g)
		}
		if rel.Inter(f.Hb, rel.Inverse(f.Eco)).Size() != 0 {
			t.Fatalf("P10.3: case %d: eco against hb: %+v", i, g)
		}
	}
	if consistent < 1000 {
		t.Errorf("not all is tried: %d", consistent)
	}
}

// handed is MaxEvents events: a value is handed from thread to thread by release and acquire, and the last one reads what is older than what the first one wrote ahead of it.
func handed(last uint64) api.Graph {
	g := initial(127, X)
	g.Events = append(g.Events, write(0, 0, 1, X), write(0, 1, 1, R))
	for t := 1; t < 63; t++ {
		g.Events = append(g.Events, read(t, t, 1, A), write(t, t+1, 1, R))
	}
	g.Events = append(g.Events, read(63, 63, 1, A), read(63, 0, last, X))
	g.Events = append(g.Events, write(0, 126, 1, X))
	return byValues(g)
}

// wheel is MaxEvents events: store buffering around all threads, each of which writes its cell and reads the next one's, with a fence in between.
func wheel(mode, fences int) api.Graph {
	g := initial(64, X)
	for t := range 64 {
		g.Events = append(g.Events, write(t, t, 1, mode), fence(t, fences), read(t, (t+1)%64, 0, mode))
	}
	return byValues(g)
}

// MaxEvents events, and MaxThreads threads.
func TestP10_2MaxEvents(t *testing.T) {
	if n, m := len(handed(0).Events), len(wheel(X, S).Events); n != api.MaxEvents || m != api.MaxEvents {
		t.Fatalf("not all is tried: %d, %d", n, m)
	}
	holdCheck(t, "handed on, and then what is older", handed(0), rc11.Coherence, 127, 254)
	holdCheck(t, "handed on", handed(1), 0)
	if f := derived(t, handed(1)); f.Sw.Size() != 63 || !f.Hb.Has(127, 254) || f.Hb.Has(254, 127) || !f.Hb.Has(127, 255) {
		t.Errorf("P10.1: handed on: %d pairs of Sw", f.Sw.Size())
	}
	var all, fences []int
	for i := 64; i < 256; i += 3 {
		all = append(all, i, i+2)
		fences = append(fences, i+1)
	}
	holdCheck(t, "a wheel, SC", wheel(S, A), rc11.Sequential, all...)
	holdCheck(t, "a wheel, fences SC", wheel(X, S), rc11.Sequential, fences...)
	holdCheck(t, "a wheel, Rlx", wheel(X, B), 0)
	holdCheck(t, "writes of one thread", byValues(api.Graph{Cells: 1, Events: append(initial(1, X).Events, slices.Repeat(in(63, wx(0, S)), 255)...)}), 0)
}

// wild is a graph of any numbers.
func wild(roll func(n int) int) api.Graph {
	number := func() int { return []int{far[roll(len(far))], roll(6) - 1}[roll(2)] }
	g := api.Graph{Cells: number()}
	for range roll(6) {
		g.Events = append(g.Events, api.Event{Thread: number(), Kind: number(), Loc: number(), Val: uint64(number()), Mode: number()})
	}
	for _, l := range lists(&g) {
		for range roll(4) {
			*l = append(*l, api.Pair{A: number(), B: number()})
		}
	}
	for range roll(4) {
		var l []int
		for range roll(4) {
			l = append(l, number())
		}
		g.Co = append(g.Co, l)
	}
	return g
}

// holdWhole: both calls refuse a graph just if it is not well-formed as the source's; with EGRAPH all else is nil, 0 or none.
func holdWhole(t *testing.T, what string, g api.Graph) (taken bool) {
	t.Helper()
	rule, _ := graph.Check(g, false)
	f, e := rc11.Derive(g)
	a, by, h := rc11.Check(g)
	if rule == 0 {
		if e != api.OK || h != api.OK || slices.Contains(relations(f), nil) || a < 0 || a > 4 || (a == 0) != (len(by) == 0) {
			t.Fatalf("P10.1, P10.2: %s: %v, %v, %d, %v: %+v", what, e, h, a, by, g)
		}
		return true
	}
	if e != api.EGRAPH || h != api.EGRAPH || f != (rc11.Facts{}) || a != 0 || len(by) != 0 {
		t.Fatalf("P10.1, P10.2: %s: not well-formed, but %v, %v, %d, %v: %+v", what, e, h, a, by, g)
	}
	return false
}

// fields are all numbers of a graph.
func fields(g *api.Graph) []*int {
	out := []*int{&g.Cells}
	for i := range g.Events {
		e := &g.Events[i]
		out = append(out, &e.Thread, &e.Kind, &e.Loc, &e.Mode)
	}
	for _, l := range lists(g) {
		for i := range *l {
			out = append(out, &(*l)[i].A, &(*l)[i].B)
		}
	}
	for _, l := range g.Co {
		for i := range l {
			out = append(out, &l[i])
		}
	}
	return out
}

// Far numbers in every field, by themselves and all at once: nothing panics.
func TestP10_4FarNumbers(t *testing.T) {
	for i := range 5000 {
		holdWhole(t, fmt.Sprint("wild graph ", i), wild(dice(uint64(i))))
	}
	taken := 0
	for k, g := range many(60) {
		for i := range fields(&g) {
			for _, n := range far {
				h := copyGraph(g)
				*fields(&h)[i] = n
				if holdWhole(t, fmt.Sprint("graph ", k, ", field ", i, " is ", n), h) {
					taken++
				}
			}
		}
	}
	if taken < 1000 {
		t.Errorf("not all is tried: %d", taken)
	}
}

// withRoom is a copy of a graph whose lists have room behind them, with something in it.
func withRoom(g api.Graph) api.Graph {
	out := copyGraph(g)
	out.Events = append(out.Events, api.Event{Val: 77}, api.Event{Loc: 77})[:len(g.Events)]
	for _, l := range lists(&out) {
		*l = append(*l, api.Pair{A: 77}, api.Pair{B: 77})[:len(*l)]
	}
	for c, l := range out.Co {
		out.Co[c] = append(l, 77, 78)[:len(l)]
	}
	out.Co = append(out.Co, []int{77}, nil)[:len(g.Co)]
	return out
}

// widened is a copy of a graph with what stands in the room behind its lists.
func widened(g api.Graph) api.Graph {
	g.Events = g.Events[:cap(g.Events)]
	for _, l := range lists(&g) {
		*l = (*l)[:cap(*l)]
	}
	co := slices.Clone(g.Co[:cap(g.Co)])
	for c, l := range co {
		co[c] = l[:cap(l)]
	}
	g.Co = co
	return copyGraph(g)
}

// wipe changes all that a graph's lists have.
func wipe(g api.Graph) {
	clear(g.Events[:cap(g.Events)])
	for _, l := range lists(&g) {
		clear((*l)[:cap(*l)])
	}
	for _, l := range g.Co {
		clear(l[:cap(l)])
	}
	clear(g.Co[:cap(g.Co)])
}

// some are graphs of all sorts.
func some() []api.Graph {
	out := append(many(150), api.Graph{}, initial(3, X), buffering(S, S, S, S), fenced(S, S), passing(X, R, A, X), loads(X, X, X, X), loads(S, S, S, S), tornPair(X, X, X))
	for i := range 50 {
		out = append(out, wild(dice(uint64(7000+i))))
	}
	return out
}

// told is all that the calls tell of a graph, as plain values.
func told(g api.Graph) []any {
	a, by, e := rc11.Check(g)
	f, h := rc11.Derive(g)
	return append([]any{a, fmt.Sprint(by), e, h}, plainFacts(f)...)
}

func plainFacts(f rc11.Facts) []any {
	var out []any
	for _, r := range relations(f) {
		if r != nil {
			out = append(out, r.Len(), fmt.Sprint(r.Pairs()))
		}
	}
	return out
}

func TestP10_4NotChangedNotKept(t *testing.T) {
	for i, g := range some() {
		want := told(g)
		a := withRoom(g)
		before := widened(a)
		if !reflect.DeepEqual(told(a), want) {
			t.Errorf("P10.4, R4: case %d: the room behind a list is seen", i)
		}
		f, _ := rc11.Derive(a)
		_, by, _ := rc11.Check(a)
		if !reflect.DeepEqual(widened(a), before) {
			t.Errorf("P10.4, R4: case %d: what is handed in is changed", i)
		}
		wipe(a)
		if got := append([]any{fmt.Sprint(by)}, plainFacts(f)...); !reflect.DeepEqual(got, append(want[1:2:2], want[4:]...)) {
			t.Errorf("P10.4, R4: case %d: what is handed in is kept", i)
		}
	}
}

// span is the memory of a list, spare room too.
type span struct{ low, high uintptr }

func spanOf[T any](l []T) span {
	low := uintptr(unsafe.Pointer(unsafe.SliceData(l)))
	return span{low, low + uintptr(cap(l))*reflect.TypeFor[T]().Size()}
}

func TestP10_4NewMemory(t *testing.T) {
	tried := 0
	for i, g := range some() {
		spans := []span{spanOf(g.Events), spanOf(g.Co)}
		for _, l := range lists(&g) {
			spans = append(spans, spanOf(*l))
		}
		for _, l := range g.Co {
			spans = append(spans, spanOf(l))
		}
		_, by, _ := rc11.Check(g)
		_, again, _ := rc11.Check(g)
		for k, a := range []span{spanOf(by), spanOf(again)} {
			for _, b := range append(spans, spanOf(by))[:len(spans)+k] {
				if a.low < a.high && b.low < b.high && a.low < b.high && b.low < a.high {
					t.Fatalf("P10.4, R4: case %d: two lists share memory", i)
				}
			}
		}
		tried += min(len(by), 1)
		runtime.KeepAlive([]any{g, by, again}) // so that no memory is given out anew while the spans are held against each other
	}
	if tried < 20 {
		t.Errorf("not all is tried: %d", tried)
	}
}

// Each relation that is told is one by itself: what is put into it is seen in no other one, nor in what is told later.
func TestP10_4NewRelations(t *testing.T) {
	for _, g := range []api.Graph{fenced(S, S), buffering(S, S, S, S), passing(X, R, A, X), threads(seq(ff(S), ff(S)))} {
		want := told(g)
		for k := range relationNames {
			f, h := derived(t, g), derived(t, g)
			r := relations(f)[k]
			for a := range r.Len() {
				for b := range r.Len() {
					r.Put(a, b, !r.Has(a, b))
				}
			}
			for m, other := range relations(f) {
				if m != k && !rel.Equal(other, relations(h)[m]) {
					t.Errorf("P10.4, R4: %s and %s have something in common", relationNames[k], relationNames[m])
				}
			}
			if !reflect.DeepEqual(told(g), want) {
				t.Errorf("P10.4, R4: what is put into %s is told later", relationNames[k])
			}
		}
	}
}

// The same every time, in goroutines at the same time too.
func TestR5AtTheSameTime(t *testing.T) {
	all := some()
	var want [][]any
	for _, g := range all {
		want = append(want, told(g))
	}
	failed := make(chan int)
	for range 8 {
		go func() {
			for i, g := range all {
				if !reflect.DeepEqual(told(g), want[i]) {
					failed <- i
					return
				}
			}
			failed <- -1
		}()
	}
	for range 8 {
		if i := <-failed; i >= 0 {
			t.Errorf("R5: case %d: told twice, not the same", i)
		}
	}
}
