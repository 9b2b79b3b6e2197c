package atom_test

import (
	"runtime"
	"slices"
	"sync"
	"testing"

	"sextant/api"
	"sextant/atom"
)

// op is what is asked of a thing: of a Put, a Push, a Do the number; of a Give the slot; of an Update the register, too.
type op struct {
	name string
	i    int
	v    uint64
}

// thing is one, and how it would answer if all were done one after the other.
type thing struct {
	ask   func(op) *atom.Task
	state []uint64
	rule  func(state []uint64, o op) ([]uint64, answer)
}

func newStack() thing {
	s := atom.NewStack()
	ask := func(o op) *atom.Task {
		if o.name == "push" {
			return s.Push(o.v)
		}
		return s.Pop()
	}
	return thing{ask, nil, func(l []uint64, o op) ([]uint64, answer) {
		switch {
		case o.name == "push":
			return append(slices.Clone(l), o.v), yes(o.v)
		case len(l) == 0:
			return l, no()
		}
		return l[:len(l)-1], yes(l[len(l)-1])
	}}
}

func newQueue() thing {
	q := atom.NewQueue()
	ask := func(o op) *atom.Task {
		if o.name == "put" {
			return q.Put(o.v)
		}
		return q.Take()
	}
	return thing{ask, nil, func(l []uint64, o op) ([]uint64, answer) {
		switch {
		case o.name == "put":
			return append(slices.Clone(l), o.v), yes(o.v)
		case len(l) == 0:
			return l, no()
		}
		return l[1:], yes(l[0])
	}}
}

func newSlots(room int) func() thing {
	return func() thing {
		s, _ := atom.NewSlots(room)
		ask := func(o op) *atom.Task {
			if o.name == "lend" {
				return s.Take()
			}
			return s.Give(o.i)
		}
		return thing{ask, make([]uint64, room), func(l []uint64, o op) ([]uint64, answer) {
			i, from, to := o.i, uint64(1), uint64(0)
			if o.name == "lend" {
				i, from, to = slices.Index(l, 0), 0, 1
			}
			if i < 0 || i >= room || l[i] != from {
				return l, no()
			}
			l = slices.Clone(l)
			l[i] = to
			return l, yes(uint64(i))
		}}
	}
}

func newSnap(n int) func() thing {
	return func() thing {
		s, _ := atom.NewSnap(n)
		ask := func(o op) *atom.Task {
			if o.name == "scan" {
				return s.Scan()
			}
			u, e := s.Update(o.i, o.v)
			if e != api.OK {
				panic("an Update that should be taken is refused")
			}
			return u
		}
		return thing{ask, make([]uint64, n), func(l []uint64, o op) ([]uint64, answer) {
			if o.name == "scan" {
				return l, saw(l...)
			}
			l = slices.Clone(l)
			l[o.i] = o.v
			return l, yes(o.v)
		}}
	}
}

func newOnce() thing {
	o := atom.NewOnce()
	return thing{func(p op) *atom.Task { return o.Do(p.v) }, nil, func(l []uint64, p op) ([]uint64, answer) {
		if len(l) == 0 {
			return []uint64{p.v}, yes(p.v)
		}
		return l, answer{n: l[0]}
	}}
}

// deed is a task that was done: when its first step and its last one were, and what it told.
type deed struct {
	op
	from, to int
	told     answer
}

// oneByOne tells whether deeds can be laid in a row, none behind one that begins after its end, so that each tells what the rule tells.
func oneByOne(th thing, state []uint64, deeds []deed) bool {
	for i, d := range deeds {
		rest := slices.Delete(slices.Clone(deeds), i, i+1)
		if slices.ContainsFunc(rest, func(r deed) bool { return r.to < d.from }) {
			continue
		}
		if next, want := th.rule(state, d.op); want == d.told && oneByOne(th, next, rest) {
			return true
		}
	}
	return len(deeds) == 0
}

// scene is what is done first, alone, and then what each of some threads does, one task behind the other; lead: the picks that all of its schedules begin with.
type scene struct {
	name    string
	make    func() thing
	ahead   []op
	threads [][]op
	lead    []int
}

// stage is a scene that is being played.
type stage struct {
	thing
	scene
	clock int
	next  []int // of each thread its next op
	open  []*atom.Task
	from  []int
	deeds []deed
}

func (sc scene) begin() *stage {
	st := &stage{thing: sc.make(), scene: sc}
	for _, o := range sc.ahead {
		alone(st.ask(o))
		st.state, _ = st.rule(st.state, o)
	}
	st.next = make([]int, len(sc.threads))
	st.open = make([]*atom.Task, len(sc.threads))
	st.from = make([]int, len(sc.threads))
	return st
}

func (sc scene) after(picks []int) *stage {
	st := sc.begin()
	for _, p := range picks {
		st.step(p)
	}
	return st
}

func (st *stage) ended(thread int) bool { return st.next[thread] == len(st.threads[thread]) }

func (st *stage) step(thread int) {
	o := st.threads[thread][st.next[thread]]
	if st.open[thread] == nil {
		st.open[thread], st.from[thread] = st.ask(o), st.clock
	}
	x := st.open[thread]
	if x.Step() {
		st.deeds = append(st.deeds, deed{o, st.from[thread], st.clock, of(x)})
		st.next[thread]++
		st.open[thread] = nil
	}
	st.clock++
}

// schedules goes through all lists of picks by which the scene can be played, and those that lead there.
func (sc scene) schedules(picks []int, see func(picks []int, st *stage)) {
	st := sc.after(picks)
	see(picks, st)
	for i := range sc.threads {
		if !st.ended(i) {
			sc.schedules(append(slices.Clone(picks), i), see)
		}
	}
}

func push(v uint64) op         { return op{name: "push", v: v} }
func pop() op                  { return op{name: "pop"} }
func put(v uint64) op          { return op{name: "put", v: v} }
func take() op                 { return op{name: "take"} }
func lend() op                 { return op{name: "lend"} }
func give(i int) op            { return op{name: "give", i: i} }
func scan() op                 { return op{name: "scan"} }
func set(i int, v uint64) op   { return op{"update", i, v} }
func do(v uint64) op           { return op{name: "do", v: v} }
func ops(l ...op) []op         { return l }
func threads(l ...[]op) [][]op { return l }

// scenes are small enough for all of their schedules.
func scenes() []scene {
	lag := []int{0, 0, 0} // of a Put: its number stands, and last is behind
	return []scene{
		{"three on an empty stack", newStack, nil, threads(ops(push(1)), ops(push(2)), ops(pop())), nil},
		{"three on a stack of one", newStack, ops(push(9)), threads(ops(push(1)), ops(pop()), ops(pop())), nil},
		{"two each on a stack", newStack, ops(push(9)), threads(ops(push(1), pop()), ops(pop(), push(2))), nil},
		{"a top that comes and goes", newStack, ops(push(7), push(8)), threads(ops(pop(), push(1), pop()), ops(pop(), pop())), nil},
		{"four on a stack", newStack, nil, threads(ops(push(1)), ops(push(2)), ops(pop()), ops(pop())), nil},
		{"a put and a take", newQueue, nil, threads(ops(put(1)), ops(take(), take())), nil},
		{"a queue of one", newQueue, ops(put(9)), threads(ops(take(), put(1)), ops(take())), nil},
		{"two puts", newQueue, nil, threads(ops(put(1)), ops(put(2), take())), nil},
		{"a last that lags, and takes", newQueue, nil, threads(ops(put(1)), ops(take()), ops(take())), append(lag, 1, 2, 1)},
		{"a last that lags, and a put", newQueue, nil, threads(ops(put(1)), ops(put(2)), ops(take())), append(lag, 1, 2, 2)},
		{"takes of two", newSlots(2), nil, threads(ops(lend()), ops(lend()), ops(lend())), nil},
		{"a slot given and taken", newSlots(2), ops(lend(), lend()), threads(ops(give(0), lend()), ops(lend(), give(0))), nil},
		{"a slot given twice", newSlots(1), ops(lend()), threads(ops(give(0)), ops(give(0)), ops(lend()), ops(give(1))), nil},
		{"scans beside one register's updates", newSnap(1), nil, threads(ops(set(0, 1), set(0, 2), set(0, 3)), ops(scan(), scan())), nil},
		{"a scan beside an update of each", newSnap(2), nil, threads(ops(set(0, 1)), ops(scan()), ops(set(1, 2))), []int{0, 0, 0, 0, 2, 2}},
		{"a scan beside two updates of one", newSnap(2), ops(set(0, 7)), threads(ops(set(1, 1), set(1, 2)), ops(scan())), nil},
		{"five deeds", newOnce, nil, threads(ops(do(1), do(2)), ops(do(3), do(4)), ops(do(5))), nil},
	}
}

func (st *stage) allEnded() bool {
	for i := range st.threads {
		if !st.ended(i) {
			return false
		}
	}
	return true
}

func TestP3_6AsIfAtOneMomentInAllSchedules(t *testing.T) {
	for _, sc := range scenes() {
		whole := 0
		sc.schedules(sc.lead, func(picks []int, st *stage) {
			if !st.allEnded() {
				return
			}
			whole++
			if !oneByOne(st.thing, st.state, st.deeds) {
				t.Fatalf("P3.6: %s, picks %v: %+v can't be laid in a row", sc.name, picks, st.deeds)
			}
		})
		t.Logf("%s: %d schedules", sc.name, whole)
	}
}

// busy are threads of more tasks than all schedules can be tried of.
func busy() []scene {
	return []scene{
		{"a stack", newStack, ops(push(100)), threads(ops(push(1), pop()), ops(pop(), push(2)), ops(push(3), push(4)), ops(pop(), pop())), nil},
		{"a queue", newQueue, ops(put(100)), threads(ops(put(1), take()), ops(take(), put(2)), ops(put(3), put(4)), ops(take(), take())), nil},
		{"slots", newSlots(2), ops(lend()), threads(ops(lend(), give(1)), ops(give(0), lend()), ops(lend(), give(0)), ops(lend(), lend())), nil},
		{"registers", newSnap(3), ops(set(1, 100)), threads(ops(set(0, 1), set(0, 2), set(0, 3)), ops(set(1, 4), set(1, 5)), ops(scan(), scan()), ops(set(2, 6), scan())), nil},
		{"a once", newOnce, nil, threads(ops(do(1), do(2)), ops(do(3)), ops(do(4)), ops(do(5), do(6))), nil},
	}
}

func TestP3_6AsIfAtOneMomentInSomeLongSchedules(t *testing.T) {
	for _, sc := range busy() {
		for seed := range uint64(1500) {
			d, st := dice(seed), sc.begin()
			for i := d(len(sc.threads)); !st.allEnded(); {
				if d(3) > 0 || st.ended(i) {
					i = d(len(sc.threads))
				}
				if !st.ended(i) {
					st.step(i)
				}
			}
			if !oneByOne(st.thing, st.state, st.deeds) {
				t.Fatalf("P3.6: %s, dice %d: %+v can't be laid in a row", sc.name, seed, st.deeds)
			}
		}
	}
}

func TestP3_6AsIfAtOneMomentOfGoroutines(t *testing.T) {
	for _, sc := range busy() {
		for seed := range uint64(400) {
			st := sc.begin()
			clock := atom.NewCell(0)
			deeds := make([][]deed, len(sc.threads))
			var wg sync.WaitGroup
			for i, l := range sc.threads {
				wg.Go(func() {
					d := dice(seed*8 + uint64(i))
					for _, o := range l {
						x := st.ask(o)
						from := int(clock.Add(1))
						for !x.Step() {
							if d(3) == 0 {
								runtime.Gosched()
							}
						}
						deeds[i] = append(deeds[i], deed{o, from, int(clock.Add(1)), of(x)})
					}
				})
			}
			wg.Wait()
			if all := slices.Concat(deeds...); !oneByOne(st.thing, st.state, all) {
				t.Fatalf("P3.6: %s, goroutines: %+v can't be laid in a row", sc.name, all)
			}
		}
	}
}
