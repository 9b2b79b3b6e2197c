package seq_test

import (
	"fmt"
	"reflect"
	"runtime"
	"slices"
	"testing"
	"unsafe"

	"sextant/api"
	"sextant/graph"
	"sextant/seq"
)

// wild is a graph of any numbers.
func wild(roll func(n int) int) api.Graph {
	number := func() int { return []int{far[roll(len(far))], roll(6) - 1}[roll(2)] }
	g := api.Graph{Cells: number()}
	for range roll(6) {
		g.Events = append(g.Events, api.Event{Thread: number(), Kind: number(), Loc: number(), Val: uint64(number()), Mode: number()})
	}
	for _, l := range lists(&g) {
		for range roll(4) {
			*l = append(*l, api.Pair{A: number(), B: number()})
		}
	}
	for range roll(4) {
		var l []int
		for range roll(4) {
			l = append(l, number())
		}
		g.Co = append(g.Co, l)
	}
	return g
}

// holdWhole: the calls refuse a graph just if it is not well-formed; with EGRAPH all else is 0, none or empty.
func holdWhole(t *testing.T, what string, g api.Graph) (asSource, asWords bool) {
	t.Helper()
	rule, _ := graph.Check(g, false)
	other, _ := graph.Check(g, true)
	asSource, asWords = rule == 0, other == 0
	for _, m := range models {
		a, by, e := m.tell(g)
		if asSource || asWords {
			if e != api.OK || a < 0 || a > m.axioms || (a == 0) != (len(by) == 0) {
				t.Fatalf("P12.1: %s: %s: %d, by %v, %v: %+v", what, m.name, a, by, e, g)
			}
		} else if e != api.EGRAPH || a != 0 || len(by) != 0 {
			t.Fatalf("P12.1: %s: not well-formed, but %s: %d, by %v, %v: %+v", what, m.name, a, by, e, g)
		}
	}
	for _, lse := range bothMappings {
		if asSource {
			holdRest(t, what, g, mapped(t, g, lse))
		} else {
			holdNone(t, what, g, lse)
		}
	}
	return asSource, asWords
}

// fields are all numbers of a graph.
func fields(g *api.Graph) []*int {
	out := []*int{&g.Cells}
	for i := range g.Events {
		e := &g.Events[i]
		out = append(out, &e.Thread, &e.Kind, &e.Loc, &e.Mode)
	}
	for _, l := range lists(g) {
		for i := range *l {
			out = append(out, &(*l)[i].A, &(*l)[i].B)
		}
	}
	for _, l := range g.Co {
		for i := range l {
			out = append(out, &l[i])
		}
	}
	return out
}

// Far numbers in every field, by themselves and all at once: nothing panics.
func TestP12_4FarNumbers(t *testing.T) {
	for i := range 5000 {
		holdWhole(t, fmt.Sprint("wild graph ", i), wild(dice(uint64(i))))
	}
	for _, u := range tongues {
		taken := 0
		for k, g := range many(60, u) {
			for i := range fields(&g) {
				for _, n := range far {
					h := copyGraph(g)
					*fields(&h)[i] = n
					if a, b := holdWhole(t, fmt.Sprint(u.name, " ", k, ", field ", i, " is ", n), h); a || b {
						taken++
					}
				}
			}
		}
		if taken < 1000 {
			t.Errorf("not all is tried: %s: %d", u.name, taken)
		}
	}
}

// withRoom is a copy of a graph whose lists have room behind them, with something in it.
func withRoom(g api.Graph) api.Graph {
	out := copyGraph(g)
	out.Events = append(out.Events, api.Event{Val: 77}, api.Event{Loc: 77})[:len(g.Events)]
	for _, l := range lists(&out) {
		*l = append(*l, api.Pair{A: 77}, api.Pair{B: 77})[:len(*l)]
	}
	for c, l := range out.Co {
		out.Co[c] = append(l, 77, 78)[:len(l)]
	}
	out.Co = append(out.Co, []int{77}, nil)[:len(g.Co)]
	return out
}

// widened is a copy of a graph with what stands in the room behind its lists.
func widened(g api.Graph) api.Graph {
	g.Events = g.Events[:cap(g.Events)]
	for _, l := range lists(&g) {
		*l = (*l)[:cap(*l)]
	}
	co := slices.Clone(g.Co[:cap(g.Co)])
	for c, l := range co {
		co[c] = l[:cap(l)]
	}
	g.Co = co
	return copyGraph(g)
}

// wipe changes all that a graph's lists have.
func wipe(g api.Graph) {
	clear(g.Events[:cap(g.Events)])
	for _, l := range lists(&g) {
		clear((*l)[:cap(*l)])
	}
	for _, l := range g.Co {
		clear(l[:cap(l)])
	}
	clear(g.Co[:cap(g.Co)])
}

// some are graphs of all sorts.
func some() []api.Graph {
	out := slices.Concat(many(120, source), many(60, words), []api.Graph{{}, initial(3, X), initial(3, P), buffering(), buffering(ff(S)), loads(), onePair(), twoPairs(), torn(), wheel(source, S)})
	for i := range 40 {
		out = append(out, wild(dice(uint64(7000+i))))
	}
	return out
}

// answer is all that the calls tell of a graph.
type answer struct {
	axioms [2]int
	by     [2][]int
	errors [4]api.Errno
	mapped [2]api.Graph
}

func ask(g api.Graph) (out answer) {
	for k, m := range models {
		out.axioms[k], out.by[k], out.errors[k] = m.tell(g)
	}
	for k, lse := range bothMappings {
		out.mapped[k], out.errors[2+k] = seq.Mapped(g, lse)
	}
	return out
}

// copied is an answer in memory of its own, nil for each empty list.
func (a answer) copied() answer {
	for k := range 2 {
		a.by[k] = append([]int(nil), a.by[k]...)
		a.mapped[k] = copyGraph(a.mapped[k])
	}
	return a
}

func TestP12_4NotChangedNotKept(t *testing.T) {
	for i, g := range some() {
		want := ask(g).copied()
		a := withRoom(g)
		before := widened(a)
		got := ask(a)
		if !reflect.DeepEqual(got.copied(), want) {
			t.Errorf("P12.4, R4: case %d: the room behind a list is seen", i)
		}
		if !reflect.DeepEqual(widened(a), before) {
			t.Errorf("P12.4, R4: case %d: what is handed in is changed", i)
		}
		wipe(a)
		if !reflect.DeepEqual(got.copied(), want) {
			t.Errorf("P12.4, R4: case %d: what is handed in is kept", i)
		}
	}
}

// span is the memory of a list, spare room too.
type span struct{ low, high uintptr }

func spanOf[T any](l []T) span {
	low := uintptr(unsafe.Pointer(unsafe.SliceData(l)))
	return span{low, low + uintptr(cap(l))*reflect.TypeFor[T]().Size()}
}

func spansOf(g api.Graph) []span {
	out := []span{spanOf(g.Events), spanOf(g.Co)}
	for _, l := range lists(&g) {
		out = append(out, spanOf(*l))
	}
	for _, l := range g.Co {
		out = append(out, spanOf(l))
	}
	return out
}

func TestP12_4NewMemory(t *testing.T) {
	tried := [2]int{}
	for i, g := range some() {
		g = withRoom(g)
		a, b := ask(g), ask(g)
		spans := spansOf(g)
		for _, x := range []answer{a, b} {
			for k := range 2 {
				spans = append(append(spans, spanOf(x.by[k])), spansOf(x.mapped[k])...)
			}
		}
		spans = slices.DeleteFunc(spans, func(s span) bool { return s.low == s.high })
		slices.SortFunc(spans, func(p, q span) int { return int(int64(p.low) - int64(q.low)) })
		for k := 1; k < len(spans); k++ {
			if spans[k].low < spans[k-1].high {
				t.Fatalf("P12.4, R4: case %d: two lists share memory", i)
			}
		}
		tried[0] += min(1, len(a.by[0]))
		tried[1] += min(1, len(a.mapped[0].Events))
		runtime.KeepAlive([]any{g, a, b}) // so that no memory is given out anew while the spans are held against each other
	}
	if min(tried[0], tried[1]) < 20 {
		t.Errorf("not all is tried: %v", tried)
	}
}

// What is written into an answer is seen neither in what was handed in nor in what is told later.
func TestP12_4AnswersAreTheCallers(t *testing.T) {
	for i, g := range some() {
		want, before := ask(g).copied(), copyGraph(g)
		a := ask(g)
		for k := range 2 {
			clear(a.by[k][:cap(a.by[k])])
			wipe(a.mapped[k])
		}
		if !reflect.DeepEqual(copyGraph(g), before) || !reflect.DeepEqual(ask(g).copied(), want) {
			t.Errorf("P12.4, R4: case %d: what is written into an answer is seen elsewhere", i)
		}
	}
}

// The same every time, in goroutines at the same time too.
func TestR5AtTheSameTime(t *testing.T) {
	all := some()
	var want []answer
	for _, g := range all {
		want = append(want, ask(g).copied())
	}
	failed := make(chan int)
	for range 8 {
		go func() {
			for i, g := range all {
				if !reflect.DeepEqual(ask(g).copied(), want[i]) {
					failed <- i
					return
				}
			}
			failed <- -1
		}()
	}
	for range 8 {
		if i := <-failed; i >= 0 {
			t.Errorf("R5: case %d: told twice, not the same", i)
		}
	}
}
