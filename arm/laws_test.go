package arm_test

import (
	"fmt"
	"reflect"
	"runtime"
	"slices"
	"testing"
	"unsafe"

	"sextant/api"
	"sextant/arm"
	"sextant/graph"
	"sextant/rel"
)

// A consistent graph stays so with each of its modes made weaker, one step, and so all steps.
func TestP11_3WeakerModes(t *testing.T) {
	tried := map[[2]int]int{}
	for i, g := range many(3000) {
		if axiomOf(t, g) != 0 {
			continue
		}
		h := copyGraph(g)
		for at, e := range g.Events {
			for m := weaker(e.Kind, e.Mode); m != 0; m = weaker(e.Kind, m) {
				k := copyGraph(g)
				k.Events[at].Mode = m
				if a := axiomOf(t, k); a != 0 {
					t.Fatalf("P11.3: case %d: the event %d with the mode %d breaks the axiom %d: %+v", i, at, m, a, g)
				}
				tried[[2]int{e.Mode, m}]++
				h.Events[at].Mode = m
			}
		}
		if a := axiomOf(t, h); a != 0 {
			t.Fatalf("P11.3: case %d: with all modes weaker it breaks the axiom %d: %+v", i, a, g)
		}
	}
	for _, step := range [][2]int{{A, Q}, {A, P}, {Q, P}, {L, P}, {Y, D}} {
		if tried[step] < 100 {
			t.Errorf("not all is tried: %v", tried)
		}
	}
}

// A graph that is forbidden stays so with each of its modes made stronger; one that is allowed may not.
func TestP11_3StrongerModes(t *testing.T) {
	stays, lost := map[int]int{}, map[int]int{}
	for i, g := range many(3000) {
		before := axiomOf(t, g)
		for at, e := range g.Events {
			for _, m := range []int{A, Q, L, Y} {
				if at < g.Cells || weaker(e.Kind, m) != e.Mode {
					continue
				}
				h := copyGraph(g)
				h.Events[at].Mode = m
				after := axiomOf(t, h)
				if before != 0 && after == 0 {
					t.Fatalf("P11.3: case %d: forbidden, but not with the event %d of the mode %d: %+v", i, at, m, g)
				}
				if before == 0 && after != 0 {
					lost[m]++
				} else if before != 0 {
					stays[m]++
				}
			}
		}
	}
	for _, m := range []int{A, Q, L, Y} {
		if min(stays[m], lost[m]) < 5 {
			t.Errorf("not all is tried: %v, %v", stays, lost)
		}
	}
}

// A consistent graph stays so without any one of its pairs of addr, data and ctrl, without some of them, and without all. A forbidden one may be allowed then.
func TestP11_3FewerDependencies(t *testing.T) {
	tried, freed := map[int]int{}, map[int]int{}
	for i, g := range many(3000) {
		before, roll := axiomOf(t, g), dice(uint64(40000+i))
		bare, some := copyGraph(g), copyGraph(g)
		bare.Addr, bare.Data, bare.Ctrl = nil, nil, nil
		for k, l := range lists(&some)[2:] {
			*l = slices.DeleteFunc(*l, func(api.Pair) bool { return roll(2) == 0 })
			for at := range *lists(&g)[k+2] {
				h := copyGraph(g)
				less := lists(&h)[k+2]
				*less = slices.Delete(*less, at, at+1)
				after := axiomOf(t, h)
				if before == 0 && after != 0 {
					t.Fatalf("P11.3: case %d: without the pair %d of the list %d it breaks the axiom %d: %+v", i, at, k, after, g)
				}
				if before == 0 {
					tried[k]++
				} else if after == 0 {
					freed[k]++
				}
			}
		}
		if before == 0 && (axiomOf(t, bare) != 0 || axiomOf(t, some) != 0) {
			t.Fatalf("P11.3: case %d: %d without all dependencies, %d without some: %+v", i, axiomOf(t, bare), axiomOf(t, some), g)
		}
	}
	for k := range 3 {
		if tried[k] < 100 || freed[k] < 10 {
			t.Errorf("not all is tried: %v, %v", tried, freed)
		}
	}
}

// With its events listed in another order that keeps po a graph has the same relations, but for the numbers, and breaks the same axiom.
func TestP11_3AnotherOrder(t *testing.T) {
	moved, answers := 0, map[int]int{}
	for i, g := range many(3000) {
		h, to := listed(g, dice(uint64(90000+i)))
		if rule, at := graph.Check(h, true); rule != 0 {
			t.Fatalf("case %d: the other order breaks the rule %d at %d", i, rule, at)
		}
		if axiomOf(t, h) != axiomOf(t, g) {
			t.Fatalf("P11.3: case %d: %d, and %d in another order: %+v", i, axiomOf(t, g), axiomOf(t, h), g)
		}
		f, k := derived(t, g), derived(t, h)
		for j, r := range relations(f) {
			if !slices.Equal(relations(k)[j].Pairs(), turned(r.Pairs(), to)) {
				t.Fatalf("P11.3: case %d: %s in another order: %+v", i, relationNames[j], g)
			}
		}
		if !slices.Equal(g.Events, h.Events) {
			moved++
			answers[axiomOf(t, g)]++
		}
	}
	if moved < 1000 || min(answers[0], answers[1], answers[2], answers[3]) < 10 {
		t.Errorf("not all is tried: %d, %v", moved, answers)
	}
}

// In a consistent graph rf and co within a thread go forward in po; in a forbidden one they need not.
func TestP11_3ForwardWithinAThread(t *testing.T) {
	forward, back := [2]int{}, [2]int{}
	for i, g := range many(3000) {
		within := [2][]api.Pair{g.Rf, nil}
		for _, l := range g.Co {
			for k, a := range l {
				for _, b := range l[k+1:] {
					within[1] = append(within[1], api.Pair{A: a, B: b})
				}
			}
		}
		consistent := axiomOf(t, g) == 0
		for k, l := range within {
			for _, p := range l {
				if g.Events[p.A].Thread != g.Events[p.B].Thread {
					continue
				}
				if p.A > p.B && consistent {
					t.Fatalf("P11.3: case %d: %v goes back in po: %+v", i, p, g)
				}
				if consistent {
					forward[k]++
				} else if p.A > p.B {
					back[k]++
				}
			}
		}
	}
	if min(forward[0], forward[1], back[0], back[1]) < 50 {
		t.Errorf("not all is tried: %v, %v", forward, back)
	}
}

// handed is MaxEvents events: a value is handed from thread to thread, and the last one reads what is older than what the first one wrote ahead of it.
func handed(read0, write0 int, last uint64) api.Graph {
	g := initial(127, P)
	g.Events = append(g.Events, write(0, 0, 1, P), write(0, 1, 1, L))
	for t := 1; t < 63; t++ {
		g.Events = append(g.Events, read(t, t, 1, read0), write(t, t+1, 1, write0))
	}
	g.Events = append(g.Events, read(63, 63, 1, A), read(63, 0, last, P))
	g.Events = append(g.Events, write(0, 126, 1, P))
	return byValues(g)
}

// wheel is MaxEvents events: store buffering around all threads, each of which writes its cell and reads the next one's, with a fence in between.
func wheel(w, r, fences int) api.Graph {
	g := initial(64, P)
	for t := range 64 {
		g.Events = append(g.Events, write(t, t, 1, w), fence(t, fences), read(t, (t+1)%64, 0, r))
	}
	return byValues(g)
}

// MaxEvents events, and MaxThreads threads.
func TestP11_2MaxEvents(t *testing.T) {
	if n, m := len(handed(P, P, 0).Events), len(wheel(P, P, Y).Events); n != api.MaxEvents || m != api.MaxEvents {
		t.Fatalf("not all is tried: %d, %d", n, m)
	}
	var on, around []int
	for i := 127; i < 255; i++ {
		on = append(on, i)
	}
	for i := 64; i < 256; i += 3 {
		around = append(around, i, i+2)
	}
	for _, m := range [][2]int{{P, L}, {Q, P}, {A, P}, {A, L}} {
		holdCheck(t, "handed on, and then what is older", handed(m[0], m[1], 0), arm.External, on...)
		holdCheck(t, "handed on", handed(m[0], m[1], 1), 0)
	}
	holdCheck(t, "not handed on", handed(P, P, 0), 0)
	data := handed(P, P, 0)
	for i := 129; i < 253; i += 2 {
		data.Data = append(data.Data, api.Pair{A: i, B: i + 1})
	}
	holdCheck(t, "handed on by data", data, arm.External, on...)
	data.Data = slices.Delete(data.Data, 40, 41)
	holdCheck(t, "handed on by data, but for one", data, 0)
	holdCheck(t, "a wheel, Release and Acquire", wheel(L, A, D), arm.External, around...)
	holdCheck(t, "a wheel, fences", wheel(P, P, Y), arm.External, around...)
	holdCheck(t, "a wheel, Release and AcquirePC", wheel(L, Q, D), 0)
	long := byValues(api.Graph{Cells: 1, Events: append(initial(1, P).Events, slices.Repeat(in(63, wx(0, L)), 255)...)})
	holdCheck(t, "writes of one thread", long, 0)
	if f := derived(t, long); f.Bob.Size() != 255*254/2 || f.Obs.Size() != 255 || f.Dob.Size()+f.Aob.Size() != 0 {
		t.Errorf("P11.1: writes of one thread: %d, %d", f.Bob.Size(), f.Obs.Size())
	}
}

// wild is a graph of any numbers.
func wild(roll func(n int) int) api.Graph {
	number := func() int { return []int{far[roll(len(far))], roll(6) - 1}[roll(2)] }
	g := api.Graph{Cells: number()}
	for range roll(6) {
		g.Events = append(g.Events, api.Event{Thread: number(), Kind: number(), Loc: number(), Val: uint64(number()), Mode: number()})
	}
	for _, l := range lists(&g) {
		for range roll(4) {
			*l = append(*l, api.Pair{A: number(), B: number()})
		}
	}
	for range roll(4) {
		var l []int
		for range roll(4) {
			l = append(l, number())
		}
		g.Co = append(g.Co, l)
	}
	return g
}

// holdWhole: both calls refuse a graph just if it is not well-formed as the words'; with EGRAPH all else is nil, 0 or none.
func holdWhole(t *testing.T, what string, g api.Graph) (taken bool) {
	t.Helper()
	rule, _ := graph.Check(g, true)
	f, e := arm.Derive(g)
	a, by, h := arm.Check(g)
	if rule == 0 {
		if e != api.OK || h != api.OK || slices.Contains(relations(f), nil) || a < 0 || a > 3 || (a == 0) != (len(by) == 0) {
			t.Fatalf("P11.1, P11.2: %s: %v, %v, %d, %v: %+v", what, e, h, a, by, g)
		}
		return true
	}
	if e != api.EGRAPH || h != api.EGRAPH || f != (arm.Facts{}) || a != 0 || len(by) != 0 {
		t.Fatalf("P11.1, P11.2: %s: not well-formed, but %v, %v, %d, %v: %+v", what, e, h, a, by, g)
	}
	return false
}

// fields are all numbers of a graph.
func fields(g *api.Graph) []*int {
	out := []*int{&g.Cells}
	for i := range g.Events {
		e := &g.Events[i]
		out = append(out, &e.Thread, &e.Kind, &e.Loc, &e.Mode)
	}
	for _, l := range lists(g) {
		for i := range *l {
			out = append(out, &(*l)[i].A, &(*l)[i].B)
		}
	}
	for _, l := range g.Co {
		for i := range l {
			out = append(out, &l[i])
		}
	}
	return out
}

// Far numbers in every field, by themselves and all at once: nothing panics.
func TestP11_4FarNumbers(t *testing.T) {
	for i := range 5000 {
		holdWhole(t, fmt.Sprint("wild graph ", i), wild(dice(uint64(i))))
	}
	taken := 0
	for k, g := range many(60) {
		for i := range fields(&g) {
			for _, n := range far {
				h := copyGraph(g)
				*fields(&h)[i] = n
				if holdWhole(t, fmt.Sprint("graph ", k, ", field ", i, " is ", n), h) {
					taken++
				}
			}
		}
	}
	if taken < 1000 {
		t.Errorf("not all is tried: %d", taken)
	}
}

// withRoom is a copy of a graph whose lists have room behind them, with something in it.
func withRoom(g api.Graph) api.Graph {
	out := copyGraph(g)
	out.Events = append(out.Events, api.Event{Val: 77}, api.Event{Loc: 77})[:len(g.Events)]
	for _, l := range lists(&out) {
		*l = append(*l, api.Pair{A: 77}, api.Pair{B: 77})[:len(*l)]
	}
	for c, l := range out.Co {
		out.Co[c] = append(l, 77, 78)[:len(l)]
	}
	out.Co = append(out.Co, []int{77}, nil)[:len(g.Co)]
	return out
}

// widened is a copy of a graph with what stands in the room behind its lists.
func widened(g api.Graph) api.Graph {
	g.Events = g.Events[:cap(g.Events)]
	for _, l := range lists(&g) {
		*l = (*l)[:cap(*l)]
	}
	co := slices.Clone(g.Co[:cap(g.Co)])
	for c, l := range co {
		co[c] = l[:cap(l)]
	}
	g.Co = co
	return copyGraph(g)
}

// wipe changes all that a graph's lists have.
func wipe(g api.Graph) {
	clear(g.Events[:cap(g.Events)])
	for _, l := range lists(&g) {
		clear((*l)[:cap(*l)])
	}
	for _, l := range g.Co {
		clear(l[:cap(l)])
	}
	clear(g.Co[:cap(g.Co)])
}

// some are graphs of all sorts.
func some() []api.Graph {
	out := append(many(150), api.Graph{}, initial(3, P), buffering(L, A, L, A), passing(P, L, A, P), loads(P, P, P, P), loads(A, L, A, L), older(P, P, P), tornPair(P, P, P), overwritten(P, L, P, A, P), handedOn(Q), buffering(api.Rel, api.Acq, api.Rel, api.Acq))
	for i := range 50 {
		out = append(out, wild(dice(uint64(7000+i))))
	}
	return out
}

// told is all that the calls tell of a graph, as plain values.
func told(g api.Graph) []any {
	a, by, e := arm.Check(g)
	f, h := arm.Derive(g)
	return append([]any{a, fmt.Sprint(by), e, h}, plainFacts(f)...)
}

func plainFacts(f arm.Facts) []any {
	var out []any
	for _, r := range relations(f) {
		if r != nil {
			out = append(out, r.Len(), fmt.Sprint(r.Pairs()))
		}
	}
	return out
}

func TestP11_4NotChangedNotKept(t *testing.T) {
	for i, g := range some() {
		want := told(g)
		a := withRoom(g)
		before := widened(a)
		if !reflect.DeepEqual(told(a), want) {
			t.Errorf("P11.4, R4: case %d: the room behind a list is seen", i)
		}
		f, _ := arm.Derive(a)
		_, by, _ := arm.Check(a)
		if !reflect.DeepEqual(widened(a), before) {
			t.Errorf("P11.4, R4: case %d: what is handed in is changed", i)
		}
		wipe(a)
		if got := append([]any{fmt.Sprint(by)}, plainFacts(f)...); !reflect.DeepEqual(got, append(want[1:2:2], want[4:]...)) {
			t.Errorf("P11.4, R4: case %d: what is handed in is kept", i)
		}
	}
}

// span is the memory of a list, spare room too.
type span struct{ low, high uintptr }

func spanOf[T any](l []T) span {
	low := uintptr(unsafe.Pointer(unsafe.SliceData(l)))
	return span{low, low + uintptr(cap(l))*reflect.TypeFor[T]().Size()}
}

func TestP11_4NewMemory(t *testing.T) {
	tried := 0
	for i, g := range some() {
		spans := []span{spanOf(g.Events), spanOf(g.Co)}
		for _, l := range lists(&g) {
			spans = append(spans, spanOf(*l))
		}
		for _, l := range g.Co {
			spans = append(spans, spanOf(l))
		}
		_, by, _ := arm.Check(g)
		_, again, _ := arm.Check(g)
		for k, a := range []span{spanOf(by), spanOf(again)} {
			for _, b := range append(spans, spanOf(by))[:len(spans)+k] {
				if a.low < a.high && b.low < b.high && a.low < b.high && b.low < a.high {
					t.Fatalf("P11.4, R4: case %d: two lists share memory", i)
				}
			}
		}
		tried += min(len(by), 1)
		runtime.KeepAlive([]any{g, by, again}) // so that no memory is given out anew while the spans are held against each other
	}
	if tried < 20 {
		t.Errorf("not all is tried: %d", tried)
	}
}

// Each relation that is told is one by itself: what is put into it is seen in no other one, nor in what is handed in, nor in what is told later.
func TestP11_4NewRelations(t *testing.T) {
	for _, g := range []api.Graph{
		handedOn(A), buffering(P, P, P, P), passing(P, L, A, P), tornPair(P, P, P), threads(seq(ff(Y), ff(Y))),
		withAddr(passing(P, P, P, P), 4, 5), withData(loads(P, P, P, P), 2, 3),
	} {
		want, before := told(g), copyGraph(g)
		for k := range relationNames {
			f, h := derived(t, g), derived(t, g)
			r := relations(f)[k]
			for a := range r.Len() {
				for b := range r.Len() {
					r.Put(a, b, !r.Has(a, b))
				}
			}
			for m, other := range relations(f) {
				if m != k && !rel.Equal(other, relations(h)[m]) {
					t.Errorf("P11.4, R4: %s and %s have something in common", relationNames[k], relationNames[m])
				}
			}
			if !reflect.DeepEqual(copyGraph(g), before) {
				t.Errorf("P11.4, R4: what is put into %s is seen in what was handed in", relationNames[k])
			}
			if !reflect.DeepEqual(told(g), want) {
				t.Errorf("P11.4, R4: what is put into %s is told later", relationNames[k])
			}
		}
	}
}

// The list of events is one by itself too.
func TestP11_4NewList(t *testing.T) {
	for i, g := range []api.Graph{older(P, P, P), buffering(L, A, L, A), tornPair(P, P, P)} {
		want, before := told(g), copyGraph(g)
		_, by, _ := arm.Check(g)
		clear(by[:cap(by)])
		if !reflect.DeepEqual(copyGraph(g), before) || !reflect.DeepEqual(told(g), want) {
			t.Errorf("P11.4, R4: case %d: what is written into the events is seen elsewhere", i)
		}
	}
}

// The same every time, in goroutines at the same time too.
func TestR5AtTheSameTime(t *testing.T) {
	all := some()
	var want [][]any
	for _, g := range all {
		want = append(want, told(g))
	}
	failed := make(chan int)
	for range 8 {
		go func() {
			for i, g := range all {
				if !reflect.DeepEqual(told(g), want[i]) {
					failed <- i
					return
				}
			}
			failed <- -1
		}()
	}
	for range 8 {
		if i := <-failed; i >= 0 {
			t.Errorf("R5: case %d: told twice, not the same", i)
		}
	}
}
