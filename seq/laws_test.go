package seq_test

import (
	"fmt"
	"slices"
	"testing"

	"sextant/api"
	"sextant/graph"
	"sextant/seq"
)

// What is sequentially consistent is TSO-consistent, and is allowed by RC11 or ARMv8, whichever it is a graph of; of the source also when it is mapped.
func TestP12_3SequentialIsAllowed(t *testing.T) {
	for _, u := range tongues {
		taken, pairs := 0, 0
		for i, g := range many(6000, u) {
			if sc.of(t, g) != 0 {
				continue
			}
			if a := tso.of(t, g); a != 0 {
				t.Fatalf("P12.3: %s %d: sequentially consistent, but Tso tells %d: %+v", u.name, i, a, g)
			}
			if !allows(t, g, u) {
				t.Fatalf("P12.3: %s %d: sequentially consistent, but not allowed: %+v", u.name, i, g)
			}
			for _, lse := range bothMappings {
				if u.name == source.name && !allows(t, mapped(t, g, lse), words) {
					t.Fatalf("T5: %d: sequentially consistent, but not allowed when mapped, lse %v: %+v", i, lse, g)
				}
			}
			taken++
			pairs += min(1, len(g.Rmw))
		}
		if taken < 1000 || pairs < 300 {
			t.Errorf("not all is tried: %s: %d, %d", u.name, taken, pairs)
		}
	}
}

// A source graph whose accesses are all SC, and that has no fences: RC11 allows it just if it is sequentially consistent.
func TestP12_3AllSC(t *testing.T) {
	got := map[string]int{}
	for i, g := range many(9000, source) {
		g = strongest(g)
		allowed, in := allows(t, g, source), sc.of(t, g)
		if allowed != (in == 0) {
			t.Fatalf("P12.3: case %d: RC11 allows it: %v, but Sc tells %d: %+v", i, allowed, in, g)
		}
		got[fmt.Sprint(in, min(1, len(g.Rmw)))]++
	}
	for _, what := range []string{"0 0", "0 1", "1 0", "1 1", "2 1"} {
		if got[what] < 50 {
			t.Errorf("not all is tried: %v", got)
		}
	}
	// With weaker modes, or with fences instead, RC11 allows more.
	if g := buffering(); !allows(t, g, source) || allows(t, strongest(g), source) {
		t.Errorf("P12.3: store buffering: %v, %v", allows(t, g, source), allows(t, strongest(g), source))
	}
}

// strongest is a graph without its fences and with all accesses SC, but the initial writes.
func strongest(g api.Graph) api.Graph {
	to := make([]int, len(g.Events))
	out := api.Graph{Cells: g.Cells}
	for i, e := range g.Events {
		to[i] = len(out.Events)
		if i >= g.Cells {
			e.Mode = S
		}
		if e.Kind != api.Fence {
			out.Events = append(out.Events, e)
		}
	}
	from := lists(&g)
	for k, l := range lists(&out) {
		for _, p := range *from[k] {
			*l = append(*l, api.Pair{A: to[p.A], B: to[p.B]})
		}
	}
	for _, l := range g.Co {
		var m []int
		for _, i := range l {
			m = append(m, to[i])
		}
		out.Co = append(out.Co, m)
	}
	return out
}

// For every source graph: if ARMv8 allows it mapped, by either mapping, RC11 allows it. The other way round it need not be.
func TestP12_3MappedRight(t *testing.T) {
	got := map[string]int{}
	for i, g := range many(12000, source) {
		in11 := allows(t, g, source)
		for _, lse := range bothMappings {
			inArm := allows(t, mapped(t, g, lse), words)
			if inArm && !in11 {
				t.Fatalf("P12.3: case %d, lse %v: ARMv8 allows it mapped, RC11 does not: %+v", i, lse, g)
			}
			got[fmt.Sprint(inArm, in11, lse)]++
			if inArm && sc.of(t, g) != 0 {
				got[fmt.Sprint("weak ", lse)]++
			}
		}
	}
	for _, what := range []string{"true true false", "true true true", "false true false", "false true true", "false false false", "false false true", "weak false", "weak true"} {
		if got[what] < 100 {
			t.Errorf("not all is tried: %s: %d", what, got[what])
		}
	}
}

// All modes of graphs that hang on them: store buffering, message passing, load buffering, IRIW and others, by either mapping.
func TestP12_3MappedRightWithAllModes(t *testing.T) {
	got := map[string]int{}
	passing := threads(thread(wx(1), wy(1)), thread(ry(1), rx(0)))
	for _, g := range []api.Graph{
		buffering(), passing, loads(), onePair(), torn(),
		threads(thread(wx(1), wy(1), wy(2)), thread(ry(2), rx(0))),
		threads(thread(wx(1)), thread(rx(1), wy(1)), thread(ry(1), rx(0))),
		threads(thread(wx(1)), thread(wy(1)), thread(rx(1), ry(0)), thread(ry(1), rx(0))),
		withRmw(threads(thread(wx(1), wy(1)), thread(ry(1), wy(2)), thread(ry(2), rx(0))), 4, 5),
		buffering(ff(S)),
		threads(thread(wx(1), ff(S), wy(1)), thread(ry(1), ff(S), rx(0))),
	} {
		allModes(g, source, func(g api.Graph) {
			for _, lse := range bothMappings {
				inArm, in11 := allows(t, mapped(t, g, lse), words), allows(t, g, source)
				if inArm && !in11 {
					t.Errorf("P12.3: lse %v: ARMv8 allows it mapped, RC11 does not: %+v", lse, g)
				}
				got[fmt.Sprint(inArm, in11)]++
			}
		})
	}
	if min(got["true true"], got["false true"], got["false false"]) < 100 {
		t.Errorf("not all is tried: %v", got)
	}
}

// The second mapping allows what the first one does: LDAPR is weaker than LDAR.
func TestP12_3SecondMappingIsWeaker(t *testing.T) {
	more := 0
	for i, g := range append(many(6000, source), withModes(buffering(), source, R, A, R, A)) {
		one, two := allows(t, mapped(t, g, false), words), allows(t, mapped(t, g, true), words)
		if one && !two {
			t.Fatalf("P12.2: case %d: allowed by the first mapping alone: %+v", i, g)
		}
		if two && !one {
			more++
		}
	}
	if more == 0 {
		t.Error("not all is tried")
	}
}

// machine is a way of running a graph's threads: each event is done just as the graph has it, or it can't be done yet. buffered: writes wait in a buffer of their thread's. What is done so far tells what is in memory, and in the buffers.
type machine struct {
	api.Graph
	buffered bool
	threads  [][]int
	from     map[int]int
	paired   map[int]int // of a pair's read its write
	seen     map[string]bool
}

// recorded tells whether a machine can do all events of a graph so that just that graph comes of it.
func recorded(g api.Graph, buffered bool) bool {
	m := &machine{Graph: g, buffered: buffered, threads: threadsOf(g), from: map[int]int{}, paired: map[int]int{}, seen: map[string]bool{}}
	for _, p := range g.Rf {
		m.from[p.B] = p.A
	}
	for _, p := range g.Rmw {
		m.paired[p.A] = p.B
	}
	return m.search(make([]int, len(m.threads)), make([][]int, len(m.threads)), slices.Repeat([]int{1}, g.Cells))
}

// search: done are the events that each thread has done, waiting those in its buffer, came how many writes of each cell are in memory.
func (m *machine) search(done []int, waiting [][]int, came []int) bool {
	state := fmt.Sprint(done, waiting, came)
	if m.seen[state] {
		return false
	}
	m.seen[state] = true
	left := false
	for t, l := range m.threads {
		left = left || done[t] < len(l) || len(waiting[t]) > 0
		if len(waiting[t]) > 0 {
			if now, ok := m.come(waiting[t][0], came); ok {
				if m.search(done, replaced(waiting, t, waiting[t][1:]), now) {
					return true
				}
			}
		}
		if done[t] < len(l) {
			if next, rest, now, ok := m.step(l, done[t], waiting[t], came); ok && m.search(replaced(done, t, next), replaced(waiting, t, rest), now) {
				return true
			}
		}
	}
	return !left
}

// come lets a write come to memory, if it is its turn in co.
func (m *machine) come(w int, came []int) ([]int, bool) {
	c := m.Events[w].Loc
	if m.Co[c][came[c]] != w {
		return nil, false
	}
	return replaced(came, c, came[c]+1), true
}

// step does a thread's next event, or pair.
func (m *machine) step(l []int, done int, waiting, came []int) (next int, rest, now []int, ok bool) {
	i := l[done]
	e := m.Events[i]
	if e.Kind == api.Write && m.buffered {
		return done + 1, append(slices.Clone(waiting), i), came, true
	}
	if e.Kind == api.Write {
		now, ok = m.come(i, came)
		return done + 1, waiting, now, ok
	}
	if e.Kind == api.Fence {
		return done + 1, waiting, came, len(waiting) == 0 || e.Mode != S && e.Mode != Y
	}
	in := m.Co[e.Loc][came[e.Loc]-1]
	for _, w := range waiting {
		if m.Events[w].Loc == e.Loc {
			in = w
		}
	}
	w, pair := m.paired[i]
	if in != m.from[i] || pair && len(waiting) > 0 {
		return 0, nil, nil, false
	}
	if !pair {
		return done + 1, waiting, came, true
	}
	now, ok = m.come(w, came)
	return done + 2, waiting, now, ok
}

func replaced[T any](l []T, at int, x T) []T {
	l = slices.Clone(l)
	l[at] = x
	return l
}

// What the axioms say is what machines do: of sequential consistency one that does an event at a time, a pair at once; of TSO one with store buffers.
func TestP12_1Machines(t *testing.T) {
	for _, u := range tongues {
		got := map[string]int{}
		for i := range 4000 {
			roll := dice(uint64(50000 + i))
			g := made(roll, u, []int{1, 2, 4, 8}[i%4], 10)
			if i%2 == 0 {
				g = ring(roll, u, 6)
			}
			if len(g.Events)-g.Cells > 12 {
				continue
			}
			for k, m := range models {
				in := m.of(t, g)
				if done := recorded(g, k == 1); done != (in == 0) {
					t.Fatalf("P12.1: %s %d: %s tells %d, a machine can do it: %v: %+v", u.name, i, m.name, in, done, g)
				}
				got[m.name+fmt.Sprint(in)]++
			}
			if sc.of(t, g) != 0 && tso.of(t, g) == 0 {
				got["Tso alone"]++
			}
		}
		for _, what := range []string{"Sc0", "Sc1", "Sc2", "Tso0", "Tso1", "Tso2", "Tso3", "Tso alone"} {
			if got[what] < 40 {
				t.Errorf("not all is tried: %s: %s: %d", u.name, what, got[what])
			}
		}
	}
}

// Modes of accesses are nothing to either model; with a barrier more a graph that is forbidden stays so.
func TestP12_1Modes(t *testing.T) {
	changed := 0
	for i, g := range many(3000, source) {
		h := copyGraph(g)
		roll := dice(uint64(i))
		for k, e := range g.Events[g.Cells:] {
			if l := source.of(e.Kind); e.Kind != api.Fence {
				h.Events[g.Cells+k].Mode = l[roll(len(l))]
			}
		}
		for _, m := range models {
			a, by, _ := m.tell(g)
			m.hold(t, fmt.Sprint("case ", i, " with other modes"), h, a, by...)
		}
		for k, e := range g.Events[g.Cells:] {
			if e.Kind == api.Fence {
				h.Events[g.Cells+k].Mode = S
			}
		}
		before, after := tso.of(t, g), tso.of(t, h)
		if before != 0 && after != before || sc.of(t, g) != sc.of(t, h) {
			t.Fatalf("P12.1: case %d: %d, and with barriers %d: %+v", i, before, after, g)
		}
		if before != after {
			changed++
		}
	}
	if changed < 5 {
		t.Errorf("not all is tried: %d", changed)
	}
}

// The constants are the axioms' numbers.
func TestP12_1Numbers(t *testing.T) {
	if seq.Order != 1 || seq.Atomicity != 2 || seq.Global != 3 {
		t.Errorf("P12.1: %d, %d, %d", seq.Order, seq.Atomicity, seq.Global)
	}
}

// A mapped graph breaks the same axiom of Sc, by the same events: modes are nothing to it. By Tso it may break more: fences get stronger.
func TestP12_3MappedInSc(t *testing.T) {
	more := 0
	for i, g := range many(3000, source) {
		for _, lse := range bothMappings {
			m := mapped(t, g, lse)
			a, by, _ := seq.Sc(g)
			sc.hold(t, fmt.Sprint("case ", i, ", mapped"), m, a, by...)
			if before, after := tso.of(t, g), tso.of(t, m); before != 0 && after != before {
				t.Fatalf("P12.1: case %d: %d, and mapped %d: %+v", i, before, after, g)
			} else if after != before {
				more++
			}
			if rule, at := graph.Check(m, true); rule != 0 {
				t.Fatalf("P12.2: case %d: the mapped graph breaks the rule %d at %d", i, rule, at)
			}
		}
	}
	if more == 0 {
		t.Error("not all is tried")
	}
}
