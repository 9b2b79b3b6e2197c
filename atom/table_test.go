package atom_test

import (
	"fmt"
	"iter"
	"slices"
	"testing"

	"sextant/api"
	"sextant/atom"
)

// row is a row of the chapter's table as plain code: it calls step ahead of each load, store or compare-and-swap, and rests there.
type row func(step func()) answer

// shadow is a row that is gone through step by step, beside the task that it should be like.
type shadow struct {
	next  func() (struct{}, bool)
	done  bool
	steps int
	told  answer
}

func newShadow(r row) *shadow {
	s := &shadow{}
	s.next, _ = iter.Pull(func(yield func(struct{}) bool) {
		s.told = r(func() { yield(struct{}{}) })
	})
	s.next()
	return s
}

func (s *shadow) step() {
	if !s.done {
		_, more := s.next()
		s.done = !more
		s.steps++
	}
}

type node struct {
	n    uint64
	next *node
}

// swap is a compare-and-swap of plain memory.
func swap[T comparable](place *T, from, to T) bool {
	if *place != from {
		return false
	}
	*place = to
	return true
}

type plainStack struct{ top *node }

func (s *plainStack) push(v uint64) row {
	return func(step func()) answer {
		for {
			step()
			t := s.top
			step()
			if swap(&s.top, t, &node{v, t}) {
				return yes(v)
			}
		}
	}
}

func (s *plainStack) pop() row {
	return func(step func()) answer {
		for {
			step()
			t := s.top
			if t == nil {
				return no()
			}
			step()
			if swap(&s.top, t, t.next) {
				return yes(t.n)
			}
		}
	}
}

type plainQueue struct{ first, last *node }

func newPlainQueue() *plainQueue {
	n := &node{}
	return &plainQueue{n, n}
}

func (q *plainQueue) put(v uint64) row {
	return func(step func()) answer {
		own := &node{n: v}
		for {
			step()
			l := q.last
			step()
			if n := l.next; n != nil {
				step()
				swap(&q.last, l, n)
				continue
			}
			step()
			if swap(&l.next, nil, own) {
				step()
				swap(&q.last, l, own)
				return yes(v)
			}
		}
	}
}

func (q *plainQueue) take() row {
	return func(step func()) answer {
		for {
			step()
			f := q.first
			step()
			l := q.last
			step()
			n := f.next
			if n == nil {
				return no()
			}
			step()
			if f == l {
				swap(&q.last, l, n)
			} else if swap(&q.first, f, n) {
				return yes(n.n)
			}
		}
	}
}

type plainSlots struct {
	room int
	lent [64]bool
}

func (s *plainSlots) take() row {
	return func(step func()) answer {
		for {
			step()
			was := s.lent
			i := slices.Index(was[:s.room], false)
			if i < 0 {
				return no()
			}
			now := was
			now[i] = true
			step()
			if swap(&s.lent, was, now) {
				return yes(uint64(i))
			}
		}
	}
}

func (s *plainSlots) give(i int) row {
	return func(step func()) answer {
		for {
			step()
			was := s.lent
			if i < 0 || i >= s.room || !was[i] {
				return no()
			}
			now := was
			now[i] = false
			step()
			if swap(&s.lent, was, now) {
				return yes(uint64(i))
			}
		}
	}
}

type laid struct {
	n    uint64
	seen []uint64
}

type plainSnap struct{ registers []*laid }

func newPlainSnap(n int) *plainSnap {
	s := &plainSnap{}
	for range n {
		s.registers = append(s.registers, &laid{})
	}
	return s
}

// collects keeps all of them, and looks in all for what has moved.
func (s *plainSnap) collects(step func()) []uint64 {
	var all [][]*laid
	moved := func(k, i int) bool { return all[k][i] != all[k-1][i] }
	for k := 0; ; k++ {
		all = append(all, nil)
		for i := range s.registers {
			step()
			all[k] = append(all[k], s.registers[i])
		}
		if k > 0 && slices.Equal(all[k], all[k-1]) {
			var view []uint64
			for _, r := range all[k] {
				view = append(view, r.n)
			}
			return view
		}
		for i := range s.registers {
			for j := 1; j < k; j++ {
				if moved(k, i) && moved(j, i) {
					return all[k][i].seen
				}
			}
		}
	}
}

func (s *plainSnap) scan() row {
	return func(step func()) answer { return told(0, true, s.collects(step)) }
}

func (s *plainSnap) update(i int, v uint64) row {
	return func(step func()) answer {
		seen := s.collects(step)
		step()
		s.registers[i] = &laid{v, seen}
		return yes(v)
	}
}

type plainOnce struct {
	n   uint64
	did bool
}

func (o *plainOnce) do(v uint64) row {
	return func(step func()) answer {
		step()
		if !o.did {
			*o = plainOnce{v, true}
			return yes(v)
		}
		step()
		return answer{n: o.n}
	}
}

// twin is a task, and the row that it should be like.
type twin struct {
	name   string
	task   *atom.Task
	shadow *shadow
}

// twins of one thing: each call asks for a new task by a throw of the dice.
type twins func(d func(int) int, v uint64) twin

func stackTwins(*testing.T) twins {
	s, plain := atom.NewStack(), &plainStack{}
	return func(d func(int) int, v uint64) twin {
		if d(2) == 0 {
			return twin{fmt.Sprint("Push ", v), s.Push(v), newShadow(plain.push(v))}
		}
		return twin{"Pop", s.Pop(), newShadow(plain.pop())}
	}
}

func queueTwins(*testing.T) twins {
	q, plain := atom.NewQueue(), newPlainQueue()
	return func(d func(int) int, v uint64) twin {
		if d(2) == 0 {
			return twin{fmt.Sprint("Put ", v), q.Put(v), newShadow(plain.put(v))}
		}
		return twin{"Take", q.Take(), newShadow(plain.take())}
	}
}

func slotsTwins(room int) func(*testing.T) twins {
	return func(t *testing.T) twins {
		s, plain := slots(t, room), &plainSlots{room: room}
		return func(d func(int) int, v uint64) twin {
			if d(2) == 0 {
				return twin{"Slots.Take", s.Take(), newShadow(plain.take())}
			}
			i := d(room+2) - 1
			return twin{fmt.Sprint("Give ", i), s.Give(i), newShadow(plain.give(i))}
		}
	}
}

// snapTwins asks for an Update of a register also while its last one is not done: it should be refused, and then a Scan comes instead.
func snapTwins(n int) func(*testing.T) twins {
	return func(t *testing.T) twins {
		s, plain := snap(t, n), newPlainSnap(n)
		last := make([]*shadow, n)
		return func(d func(int) int, v uint64) twin {
			if i := d(n); d(3) > 0 {
				x, e := s.Update(i, v)
				busy := last[i] != nil && !last[i].done
				if (e == api.EARG) != busy || (x == nil) != busy || e != api.OK && e != api.EARG {
					t.Fatalf("P3.5: Update(%d, %d) while the last one is not done: %v: %v, %d", i, v, busy, x, e)
				}
				if !busy {
					last[i] = newShadow(plain.update(i, v))
					return twin{fmt.Sprint("Update ", i, v), x, last[i]}
				}
			}
			return twin{"Scan", s.Scan(), newShadow(plain.scan())}
		}
	}
}

func onceTwins(*testing.T) twins {
	o, plain := atom.NewOnce(), &plainOnce{}
	return func(d func(int) int, v uint64) twin {
		return twin{fmt.Sprint("Do ", v), o.Do(v), newShadow(plain.do(v))}
	}
}

func checkTwin(t *testing.T, w twin) {
	t.Helper()
	s := w.shadow
	want := answer{}
	if s.done {
		want = s.told
	}
	if w.task.Done() != s.done || w.task.Steps() != s.steps || of(w.task) != want {
		t.Fatalf("P3.1: %s: done %v, %d steps, %v; by the table %v, %d, %v", w.name, w.task.Done(), w.task.Steps(), of(w.task), s.done, s.steps, want)
	}
}

func stepTwin(t *testing.T, w twin) {
	t.Helper()
	w.shadow.step()
	if done := w.task.Step(); done != w.shadow.done {
		t.Fatalf("P3.1: %s: Step tells %v in step %d; by the table %v", w.name, done, w.task.Steps(), w.shadow.done)
	}
	checkTwin(t, w)
}

// play lets some at a time do tasks of one thing, by throws of the dice; one that is done is stepped once more, and makes room for the next.
func play(t *testing.T, next twins, d func(int) int, many, picks int) {
	t.Helper()
	v := uint64(0)
	ask := func() twin {
		v++
		w := next(d, v)
		checkTwin(t, w)
		return w
	}
	var open []twin
	for range many {
		open = append(open, ask())
	}
	for range picks {
		i := d(many)
		// Several steps at once, now and then, so that others fall far behind.
		for range 1 + d(2)*d(12) {
			stepTwin(t, open[i])
		}
		if open[i].shadow.done {
			open[i] = ask()
		}
	}
	for _, w := range open {
		for !w.shadow.done {
			stepTwin(t, w)
		}
		stepTwin(t, w)
	}
}

func TestP3_1EachStepIsTheTables(t *testing.T) {
	for _, thing := range []func(*testing.T) twins{
		stackTwins, queueTwins, onceTwins,
		slotsTwins(1), slotsTwins(2), slotsTwins(3), slotsTwins(64),
		snapTwins(1), snapTwins(2), snapTwins(3), snapTwins(5), snapTwins(16),
	} {
		for seed := range uint64(60) {
			play(t, thing(t), dice(seed), 1+int(seed%6), 300)
		}
	}
}
