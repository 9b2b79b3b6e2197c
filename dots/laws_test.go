package dots_test

import (
	"bytes"
	"fmt"
	"reflect"
	"runtime"
	"slices"
	"testing"
	"unsafe"

	"sextant/api"
	"sextant/dots"
)

// There and back.
func TestP9_5ThereAndBack(t *testing.T) {
	for i, g := range some(3000) {
		b, s := mustPut(t, g), mustText(t, g)
		h, at, e := dots.Get(b)
		if e != api.OK || at != 0 || !alike(h, g) {
			t.Fatalf("P9.5: case %d: Get of Put is %+v, %d, %v: %+v", i, h, at, e, g)
		}
		k, line, f := dots.Parse(s)
		if f != api.OK || line != 0 || !alike(k, g) {
			t.Fatalf("P9.5: case %d: Parse of Text is %+v, %d, %v: %+v", i, k, line, f, g)
		}
		if !bytes.Equal(mustPut(t, k), b) || mustText(t, h) != s {
			t.Fatalf("P9.5: case %d: not one form: %+v", i, g)
		}
	}
}

// What is taken is told as just that: of bytes and texts with something changed, too.
func TestP9_5OneForm(t *testing.T) {
	taken := [2]int{}
	for i := range 4000 {
		roll := dice(uint64(i))
		g := made(roll, false)
		b, s := mustPut(t, g), []byte(mustText(t, g))
		for range roll(3) {
			b[roll(len(b))] = byte(roll(3) * roll(128))
			s[roll(len(s))] = "0123456789 -\nRWFrlxc"[roll(20)]
		}
		if h, _, e := dots.Get(b); e == api.OK {
			taken[0]++
			if !bytes.Equal(mustPut(t, h), b) {
				t.Fatalf("P9.5: Put of Get of % d is another one", b)
			}
		}
		if h, _, e := dots.Parse(string(s)); e == api.OK {
			taken[1]++
			if mustText(t, h) != string(s) {
				t.Fatalf("P9.5: Text of Parse of %q is another one", s)
			}
		}
	}
	if min(taken[0], taken[1]) < 1000 {
		t.Errorf("not all is tried: %v", taken)
	}
}

// withRoom is a copy of a graph whose lists have room behind them, with something in it.
func withRoom(g api.Graph) api.Graph {
	out := copyGraph(g)
	out.Events = append(out.Events, api.Event{Val: 77}, api.Event{Loc: 77})[:len(g.Events)]
	for _, l := range lists(&out) {
		*l = append(*l, api.Pair{A: 77}, api.Pair{B: 77})[:len(*l)]
	}
	for c, l := range out.Co {
		out.Co[c] = append(l, 77, 78)[:len(l)]
	}
	out.Co = append(out.Co, []int{77}, nil)[:len(g.Co)]
	return out
}

// widened is a copy of a graph with what stands in the room behind its lists.
func widened(g api.Graph) api.Graph {
	g.Events = g.Events[:cap(g.Events)]
	for _, l := range lists(&g) {
		*l = (*l)[:cap(*l)]
	}
	co := slices.Clone(g.Co[:cap(g.Co)])
	for c, l := range co {
		co[c] = l[:cap(l)]
	}
	g.Co = co
	return copyGraph(g)
}

// wipe changes all that a graph's lists have.
func wipe(g api.Graph) {
	clear(g.Events[:cap(g.Events)])
	for _, l := range lists(&g) {
		clear((*l)[:cap(*l)])
	}
	for _, l := range g.Co {
		clear(l[:cap(l)])
	}
	clear(g.Co[:cap(g.Co)])
}

// anySort are graphs of all sorts, also such that are refused.
func anySort() []api.Graph {
	out := some(150)
	for i := range 100 {
		out = append(out, wild(dice(uint64(7000+i))), shuffled(ofWords(), dice(uint64(i))))
	}
	return out
}

// told is all that the calls tell of a graph, and of its bytes and its text, right or cut off, as plain values.
func told(g api.Graph) string {
	b, e := dots.Put(g)
	s, f := dots.Text(g)
	h, k := dots.Canon(g)
	out := fmt.Sprint(b, e, s, f, h, k)
	for _, n := range []int{0, len(b) / 2, len(b)} {
		h, at, e := dots.Get(b[:n])
		out += fmt.Sprint(h, at, e)
	}
	for _, n := range []int{0, len(s) / 2, len(s)} {
		h, line, e := dots.Parse(s[:n])
		out += fmt.Sprint(h, line, e)
	}
	return out
}

func TestR4NotChangedNotKept(t *testing.T) {
	for i, g := range anySort() {
		want := told(g)
		a := withRoom(g)
		before := widened(a)
		if told(a) != want {
			t.Errorf("R4: case %d: the room behind a list is seen", i)
		}
		b, _ := dots.Put(a)
		h, _ := dots.Canon(a)
		tells := fmt.Sprint(b, h)
		if !reflect.DeepEqual(widened(a), before) {
			t.Errorf("R4: case %d: what is handed in is changed", i)
		}
		wipe(a)
		if fmt.Sprint(b, h) != tells {
			t.Errorf("R4: case %d: what is handed in is kept", i)
		}
		for _, n := range []int{len(b), len(b) / 2} {
			given := append(slices.Clone(b[:n]), 1, 2, 3)
			k, at, e := dots.Get(given[:n])
			tells := fmt.Sprint(k, at, e)
			if !slices.Equal(given, append(slices.Clone(b[:n]), 1, 2, 3)) {
				t.Errorf("R4: case %d: the bytes that are handed in are changed", i)
			}
			clear(given)
			if fmt.Sprint(k, at, e) != tells {
				t.Errorf("R4: case %d: the bytes that are handed in are kept", i)
			}
		}
	}
}

// span is the memory of a list, spare room too.
type span struct{ low, high uintptr }

func spanOf[T any](l []T) span {
	low := uintptr(unsafe.Pointer(unsafe.SliceData(l)))
	return span{low, low + uintptr(cap(l))*reflect.TypeFor[T]().Size()}
}

func spansOf(g api.Graph) []span {
	out := []span{spanOf(g.Events), spanOf(g.Co)}
	for _, l := range lists(&g) {
		out = append(out, spanOf(*l))
	}
	for _, l := range g.Co[:cap(g.Co)] {
		out = append(out, spanOf(l))
	}
	return out
}

func TestR4NewMemory(t *testing.T) {
	for i, g := range anySort() {
		spans := spansOf(g)
		var held []any // so that no memory is given out anew while the spans are held against each other
		for range 2 {
			b, _ := dots.Put(g)
			s, _ := dots.Text(g)
			h, _ := dots.Canon(g)
			k, _, _ := dots.Get(b)
			m, _, _ := dots.Parse(s)
			held = append(held, b, h, k, m)
			spans = append(spans, spanOf(b))
			spans = slices.Concat(spans, spansOf(h), spansOf(k), spansOf(m))
		}
		spans = slices.DeleteFunc(spans, func(a span) bool { return a.low == a.high })
		slices.SortFunc(spans, func(a, b span) int { return int(a.low) - int(b.low) })
		for k := range max(len(spans), 1) - 1 {
			if spans[k].high > spans[k+1].low {
				t.Fatalf("R4: case %d: two lists share memory", i)
			}
		}
		runtime.KeepAlive(g)
		runtime.KeepAlive(held)
	}
}

// What is put into an answer is seen in no later one.
func TestR5AnswersApart(t *testing.T) {
	for i, g := range anySort() {
		want := told(g)
		b, _ := dots.Put(g)
		s, _ := dots.Text(g)
		h, _ := dots.Canon(g)
		k, _, _ := dots.Get(b)
		m, _, _ := dots.Parse(s)
		clear(b)
		wipe(h)
		wipe(k)
		wipe(m)
		if told(g) != want {
			t.Errorf("R5: case %d: what is put into an answer is told later", i)
		}
	}
}

// The same every time, in goroutines at the same time too.
func TestR5AtTheSameTime(t *testing.T) {
	all := anySort()
	var want []string
	for _, g := range all {
		want = append(want, told(g))
	}
	failed := make(chan int)
	for range 8 {
		go func() {
			for i, g := range all {
				if told(g) != want[i] {
					failed <- i
					return
				}
			}
			failed <- -1
		}()
	}
	for range 8 {
		if i := <-failed; i >= 0 {
			t.Errorf("R5: case %d: told twice, not the same", i)
		}
	}
}
