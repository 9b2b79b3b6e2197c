package atom_test

import (
	"fmt"
	"math"
	"runtime"
	"slices"
	"sync"
	"sync/atomic"
	"testing"

	"sextant/api"
	"sextant/atom"
)

func TestP3_1ATaskThatHasNotBegun(t *testing.T) {
	p := snap(t, 3)
	for i, x := range []*atom.Task{
		atom.NewStack().Push(4), atom.NewStack().Pop(), atom.NewQueue().Put(4), atom.NewQueue().Take(),
		slots(t, 4).Take(), slots(t, 4).Give(2), p.Scan(), update(t, p, 2, 4), atom.NewOnce().Do(4),
	} {
		expect(t, fmt.Sprint("P3.1: task ", i, " ahead of its first step"), x, false, 0, no())
	}
}

// TestP3_1StepsUpToTheLastAndBehindIt: each task tells nothing ahead of its last step, and is left alone behind it.
func TestP3_1StepsUpToTheLastAndBehindIt(t *testing.T) {
	full, half := slots(t, 1), slots(t, 4)
	alone(full.Take())
	alone(half.Take())
	s, q, o, did, p := atom.NewStack(), atom.NewQueue(), atom.NewOnce(), atom.NewOnce(), snap(t, 3)
	alone(s.Push(6))
	alone(q.Put(6))
	alone(did.Do(6))
	for _, c := range []struct {
		name  string
		task  *atom.Task
		steps int
		want  answer
	}{
		{"Push", atom.NewStack().Push(math.MaxUint64), 2, yes(math.MaxUint64)},
		{"Push of 0", atom.NewStack().Push(0), 2, yes(0)},
		{"Pop", s.Pop(), 2, yes(6)},
		{"Pop of none", atom.NewStack().Pop(), 1, no()},
		{"Put", atom.NewQueue().Put(math.MaxUint64), 4, yes(math.MaxUint64)},
		{"Take", q.Take(), 4, yes(6)},
		{"Take of none", atom.NewQueue().Take(), 3, no()},
		{"Slots.Take", half.Take(), 2, yes(1)},
		{"Slots.Take of none", full.Take(), 1, no()},
		{"Give", half.Give(0), 2, yes(0)},
		{"Give of one that is free", half.Give(3), 1, no()},
		{"Give of none", half.Give(4), 1, no()},
		{"Scan", p.Scan(), 6, saw(0, 0, 0)},
		{"Update", update(t, p, 2, 8), 7, yes(8)},
		{"Scan behind it", p.Scan(), 6, saw(0, 0, 8)},
		{"Do", o.Do(7), 1, yes(7)},
		{"Do of 0", atom.NewOnce().Do(0), 1, yes(0)},
		{"Do of what is done", did.Do(7), 2, answer{n: 6}},
	} {
		for i := 1; i < c.steps; i++ {
			if c.task.Step() {
				t.Errorf("P3.1: %s is done in %d steps", c.name, i)
			}
			expect(t, "P3.1: "+c.name, c.task, false, i, no())
		}
		for range 3 {
			if !c.task.Step() {
				t.Errorf("P3.1: %s is not done in %d steps", c.name, c.steps)
			}
			expect(t, "P3.1: "+c.name, c.task, true, c.steps, c.want)
		}
	}
}

// TestP3_1OthersMayAsk: a task's stepper is one, those that ask may be more.
func TestP3_1OthersMayAsk(t *testing.T) {
	p := snap(t, 16)
	alone(update(t, p, 3, 9))
	x := p.Scan()
	var wg sync.WaitGroup
	for range 4 {
		wg.Go(func() {
			for {
				done, steps, a := x.Done(), x.Steps(), of(x)
				if done {
					if a.view == "" || !a.ok || steps > 32 {
						t.Errorf("P3.1: a task that is done tells %v in %d steps", a, steps)
					}
					return
				}
				runtime.Gosched()
			}
		})
	}
	alone(x)
	wg.Wait()
}

func TestQueueExample(t *testing.T) {
	q := atom.NewQueue()
	a := q.Put(7)
	for range 3 {
		a.Step()
	}
	x := q.Take()
	if n := atom.Play([]*atom.Task{x}, make([]int, 8)); n != 8 {
		t.Errorf("P3.6: a Take that helps: %d steps", n)
	}
	expect(t, "P3.6: a Take that helps", x, true, 8, yes(7))
	expect(t, "P3.1: the Put that it helped", a, false, 3, no())
	if !a.Step() {
		t.Error("P3.1: a Put's swap of last need not be done")
	}
	expect(t, "P3.1: the Put that it helped", a, true, 4, yes(7))
	expectAlone(t, "P3.6: a Take of none", q.Take(), 3, no())
}

// TestQueueWhoseLastLags: the next Put helps, and the swap of last that comes late does nothing.
func TestQueueWhoseLastLags(t *testing.T) {
	q := atom.NewQueue()
	a, b, late := q.Put(1), q.Put(2), q.Put(3)
	atom.Play([]*atom.Task{a, late}, []int{0, 0, 0, 1, 1})
	expectAlone(t, "P3.1: a Put that helps", b, 7, yes(2))
	expectAlone(t, "P3.1: a Put whose help comes late", late, 7, yes(3))
	expectAlone(t, "P3.1: the Put that was helped", a, 4, yes(1))
	for _, v := range []uint64{1, 2, 3} {
		expectAlone(t, "P3.6: a Take", q.Take(), 4, yes(v))
	}
	expectAlone(t, "P3.6: a Take of none", q.Take(), 3, no())
}

func TestStackIsLastInFirstOut(t *testing.T) {
	s := atom.NewStack()
	for v := range uint64(1000) {
		expectAlone(t, "P3.6: Push", s.Push(v), 2, yes(v))
	}
	for v := range uint64(1000) {
		expectAlone(t, "P3.6: Pop", s.Pop(), 2, yes(999-v))
	}
	expectAlone(t, "P3.6: Pop of none", s.Pop(), 1, no())
}

func TestQueueIsFirstInFirstOut(t *testing.T) {
	q := atom.NewQueue()
	for v := range uint64(1000) {
		expectAlone(t, "P3.6: Put", q.Put(v), 4, yes(v))
	}
	for v := range uint64(1000) {
		expectAlone(t, "P3.6: Take", q.Take(), 4, yes(v))
	}
	expectAlone(t, "P3.6: Take of none", q.Take(), 3, no())
}

func TestP3_5NewSlots(t *testing.T) {
	for _, room := range []int{0, -1, 65, 66, 128, math.MinInt, math.MaxInt, 1 << 32} {
		if s, e := atom.NewSlots(room); s != nil || e != api.EARG {
			t.Errorf("P3.5: NewSlots(%d): %v, %d", room, s, e)
		}
	}
	for room := 1; room <= 64; room++ {
		s := slots(t, room)
		for i := range room {
			expectAlone(t, fmt.Sprint("P3.5: Take of ", room), s.Take(), 2, yes(uint64(i)))
		}
		expectAlone(t, fmt.Sprint("P3.5: Take of ", room, ", all lent"), s.Take(), 1, no())
		for _, none := range []int{-1, room, room + 1, 64, 65, -64, math.MinInt, math.MaxInt} {
			expectAlone(t, fmt.Sprint("P3.1: Give of ", none, ", of ", room), s.Give(none), 1, no())
		}
		expectAlone(t, "P3.1: Give", s.Give(room-1), 2, yes(uint64(room-1)))
		expectAlone(t, "P3.1: Give once more", s.Give(room-1), 1, no())
		expectAlone(t, "P3.6: Take of the last", s.Take(), 2, yes(uint64(room-1)))
	}
}

func TestSlotsExample(t *testing.T) {
	z := slots(t, 2)
	for i, c := range []struct {
		task *atom.Task
		want answer
	}{{z.Take(), yes(0)}, {z.Take(), yes(1)}, {z.Take(), no()}, {z.Give(0), yes(0)}, {z.Give(0), no()}, {z.Take(), yes(0)}} {
		if alone(c.task); of(c.task) != c.want {
			t.Errorf("P3.6: the example's task %d of Slots: %v, want %v", i, of(c.task), c.want)
		}
	}
}

func TestP3_5NewSnap(t *testing.T) {
	for _, n := range []int{0, -1, 17, 18, math.MinInt, math.MaxInt, 1 << 32} {
		if s, e := atom.NewSnap(n); s != nil || e != api.EARG {
			t.Errorf("P3.5: NewSnap(%d): %v, %d", n, s, e)
		}
	}
	for n := 1; n <= 16; n++ {
		s := snap(t, n)
		expectAlone(t, fmt.Sprint("P3.5: a Scan of ", n), s.Scan(), 2*n, saw(make([]uint64, n)...))
		want := make([]uint64, n)
		for i := range n {
			want[i] = math.MaxUint64 - uint64(i)
			expectAlone(t, fmt.Sprint("P3.5: an Update of ", n), update(t, s, i, want[i]), 2*n+1, yes(want[i]))
			expectAlone(t, fmt.Sprint("P3.5: a Scan of ", n), s.Scan(), 2*n, saw(want...))
		}
		for _, i := range []int{-1, n, n + 1, 16, math.MinInt, math.MaxInt} {
			if u, e := s.Update(i, 1); u != nil || e != api.EARG {
				t.Errorf("P3.5: Update(%d) of %d: %v, %d", i, n, u, e)
			}
		}
	}
}

// TestP3_5UpdateWhileTheLastIsNotDone: each step of the last one but its last leaves the register taken; a refused Update changes nothing, and the other registers are free.
func TestP3_5UpdateWhileTheLastIsNotDone(t *testing.T) {
	s := snap(t, 2)
	was := uint64(0)
	for round := range uint64(3) {
		u := update(t, s, 1, 6+round)
		for !u.Done() {
			if x, e := s.Update(1, 99); x != nil || e != api.EARG {
				t.Errorf("P3.5: an Update while the last has done %d steps: %v, %d", u.Steps(), x, e)
			}
			expectAlone(t, "P3.5: an Update of the other register", update(t, s, 0, round), 5, yes(round))
			expectAlone(t, "P3.5: a Scan meanwhile", s.Scan(), 4, saw(round, was))
			u.Step()
		}
		was = 6 + round
		expectAlone(t, "P3.5: a Scan", s.Scan(), 4, saw(round, was))
	}
}

// TestP3_5OneUpdateOfMany: of many that ask at one time for an Update of a register one is taken. There are many registers, so that those that ask meet at some.
func TestP3_5OneUpdateOfMany(t *testing.T) {
	for range 500 {
		s := snap(t, 16)
		var taken [16]atomic.Int64
		gate := make(chan int)
		var wg sync.WaitGroup
		for v := range uint64(6) {
			wg.Go(func() {
				<-gate
				for i := range taken {
					if u, e := s.Update(i, v); u != nil && e == api.OK {
						taken[i].Add(1)
					} else if u != nil || e != api.EARG {
						t.Errorf("P3.5: an Update of a register: %v, %d", u, e)
					}
				}
			})
		}
		close(gate)
		wg.Wait()
		for i := range taken {
			if n := taken[i].Load(); n != 1 {
				t.Fatalf("P3.5: %d Updates of one register at one time", n)
			}
		}
	}
}

// TestScanOfEqualNumbers: a register that is laid anew has moved, even if its number is the same.
func TestScanOfEqualNumbers(t *testing.T) {
	s := snap(t, 2)
	x := s.Scan()
	atom.Play([]*atom.Task{x}, []int{0, 0})
	alone(update(t, s, 0, 0))
	atom.Play([]*atom.Task{x}, []int{0, 0})
	expect(t, "P3.1: a Scan that sees 0 laid anew", x, false, 4, no())
	expectAlone(t, "P3.1: and its next collect", x, 6, saw(0, 0))
}

// TestScanBorrowsOfTheLeast: two registers have moved twice; what the least one's Update saw is told, though the other's is of later.
func TestScanBorrowsOfTheLeast(t *testing.T) {
	s := snap(t, 3)
	x := s.Scan()
	for round := range uint64(2) {
		atom.Play([]*atom.Task{x}, []int{0, 0, 0})
		alone(update(t, s, 1, 10+round))
		alone(update(t, s, 2, 20+round))
	}
	atom.Play([]*atom.Task{x}, []int{0, 0, 0})
	expect(t, "P3.1: a Scan beside two that move twice", x, true, 9, saw(0, 10, 20))
	expectAlone(t, "P3.1: a Scan behind it", s.Scan(), 6, saw(0, 11, 21))
}

// TestUpdateBorrowsToo: an Update's Scan, too, takes what another Update saw, and hands it on.
func TestUpdateBorrowsToo(t *testing.T) {
	s := snap(t, 2)
	x := s.Scan()
	atom.Play([]*atom.Task{x}, []int{0, 0})
	alone(update(t, s, 0, 4))
	atom.Play([]*atom.Task{x}, []int{0, 0})
	u := update(t, s, 0, 5)
	atom.Play([]*atom.Task{u}, []int{0, 0})
	for v := range uint64(2) {
		alone(update(t, s, 1, 10+v))
		atom.Play([]*atom.Task{u}, []int{0, 0})
	}
	expect(t, "P3.1: an Update that borrows", u, false, 6, no())
	expectAlone(t, "P3.1: an Update that borrows", u, 7, yes(5))
	expectAlone(t, "P3.1: a Scan that borrows of it", x, 6, saw(4, 10))
	expectAlone(t, "P3.1: a Scan behind it", s.Scan(), 4, saw(5, 11))
}

func TestSnapExample(t *testing.T) {
	p := snap(t, 2)
	expectAlone(t, "P3.6: the example's Scan", p.Scan(), 4, saw(0, 0))
	expectAlone(t, "P3.6: the example's Update", update(t, p, 1, 5), 5, yes(5))
	update(t, p, 1, 6)
	if u, e := p.Update(1, 7); u != nil || e != api.EARG {
		t.Errorf("P3.5: the example's second Update: %v, %d", u, e)
	}
	if u, e := p.Update(2, 0); u != nil || e != api.EARG {
		t.Errorf("P3.5: the example's Update of no register: %v, %d", u, e)
	}
}

func TestR4ViewsAreNewMemory(t *testing.T) {
	s := snap(t, 2)
	a, b := s.Scan(), s.Scan()
	for v := range uint64(2) {
		atom.Play([]*atom.Task{a, b}, []int{0, 0, 1, 1})
		alone(update(t, s, 1, 10+v))
	}
	atom.Play([]*atom.Task{a, b}, []int{0, 0, 1, 1})
	for _, x := range []*atom.Task{a, b, a} {
		v := x.View()
		if !slices.Equal(v, []uint64{0, 10}) {
			t.Fatalf("R4: a View of what another Scan tells, too: %v", v)
		}
		v = v[:cap(v)]
		for i := range v {
			v[i] = 99
		}
	}
	expectAlone(t, "R4: a Scan behind that", s.Scan(), 4, saw(0, 11))
}

func TestOnceExample(t *testing.T) {
	o := atom.NewOnce()
	a, b := o.Do(4), o.Do(5)
	if n := atom.Play([]*atom.Task{a, b}, []int{0, 1, 0, 1, 0, 1}); n != 3 {
		t.Errorf("P3.2: two Dos in turns: %d steps", n)
	}
	expect(t, "P3.6: the first Do", a, true, 1, yes(4))
	expect(t, "P3.6: the second Do", b, true, 2, answer{n: 4})
	expectAlone(t, "P3.6: a third Do", o.Do(0), 2, answer{n: 4})
}

func TestR5TwoThingsHaveNothingInCommon(t *testing.T) {
	s, q, z, p, o := atom.NewStack(), atom.NewQueue(), slots(t, 1), snap(t, 1), atom.NewOnce()
	for _, x := range []*atom.Task{s.Push(1), q.Put(1), z.Take(), update(t, p, 0, 1), o.Do(1)} {
		alone(x)
	}
	expectAlone(t, "R5: another stack", atom.NewStack().Pop(), 1, no())
	expectAlone(t, "R5: another queue", atom.NewQueue().Take(), 3, no())
	expectAlone(t, "R5: other slots", slots(t, 1).Take(), 2, yes(0))
	expectAlone(t, "R5: another snap", snap(t, 1).Scan(), 2, saw(0))
	expectAlone(t, "R5: another once", atom.NewOnce().Do(2), 1, yes(2))
}
