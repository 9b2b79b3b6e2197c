package atom_test

import (
	"fmt"
	"math"
	"math/big"
	"runtime"
	"slices"
	"testing"

	"sextant/api"
	"sextant/atom"
)

func TestP3_2PlayExample(t *testing.T) {
	s := atom.NewStack()
	a, b := s.Push(1), s.Push(2)
	if n := atom.Play([]*atom.Task{a, b}, []int{0, 1, 0, 1, 1, 1}); n != 6 {
		t.Errorf("P3.2: the example: %d steps", n)
	}
	expect(t, "P3.2: a", a, true, 2, yes(1))
	expect(t, "P3.2: b", b, true, 4, yes(2))
	c := s.Pop()
	if n := atom.Play([]*atom.Task{c}, []int{0, 0}); n != 2 {
		t.Errorf("P3.2: the example's Pop: %d steps", n)
	}
	expect(t, "P3.2: c", c, true, 2, yes(2))
}

func TestP3_2PlayPicksModuloHowManyThereAre(t *testing.T) {
	for n := 1; n <= 7; n++ {
		for _, p := range []int{0, 1, -1, 2, -2, n, -n, n - 1, n + 1, 1 - n, -n - 1, 1000, -1000, math.MaxInt, math.MinInt, math.MaxInt - 1, math.MinInt + 1} {
			s := snap(t, 2)
			var tasks []*atom.Task
			for range n {
				tasks = append(tasks, s.Scan())
			}
			want := int(new(big.Int).Mod(big.NewInt(int64(p)), big.NewInt(int64(n))).Int64())
			got := atom.Play(tasks, []int{p})
			for i, x := range tasks {
				if got != 1 || (x.Steps() == 1) != (i == want) || x.Steps() > 1 {
					t.Errorf("P3.2: pick %d of %d tasks: %d steps, task %d did %d", p, n, got, i, x.Steps())
				}
			}
		}
	}
}

func TestP3_2PlayCountsStepsThatAreDone(t *testing.T) {
	for _, tasks := range [][]*atom.Task{nil, {}} {
		for _, picks := range [][]int{nil, {}, {0, 1, -1}} {
			if n := atom.Play(tasks, picks); n != 0 {
				t.Errorf("P3.2: no tasks, picks %v: %d", picks, n)
			}
		}
	}
	o := atom.NewOnce()
	a, b := o.Do(1), o.Do(2)
	tasks := []*atom.Task{a, b, a}
	for _, c := range []struct {
		picks []int
		want  int
	}{{nil, 0}, {[]int{2}, 1}, {[]int{0, 2, 3, -1, -3}, 0}, {[]int{0, 1, 1, 1, 1, 2}, 2}, {[]int{0, 1, 2}, 0}} {
		if n := atom.Play(tasks, c.picks); n != c.want {
			t.Errorf("P3.2: picks %v: %d steps, want %d", c.picks, n, c.want)
		}
	}
	expect(t, "P3.2: a", a, true, 1, yes(1))
	expect(t, "P3.2: b", b, true, 2, answer{n: 1})
}

func TestP3_2PlayLeavesItsListsAlone(t *testing.T) {
	s := atom.NewStack()
	tasks := []*atom.Task{s.Push(1), s.Push(2), s.Pop(), s.Pop()}
	picks := []int{5, -3, 0, 1, 2, 3, 4, 4, 5, 9, 9}
	tasksWere, picksWere := slices.Clone(tasks), slices.Clone(picks)
	atom.Play(tasks[:2], picks[:6])
	atom.Free(tasks[:3], 2)
	if !slices.Equal(tasks, tasksWere) || !slices.Equal(picks, picksWere) || tasks[3].Steps() != 0 {
		t.Errorf("R4: Play and Free: %v, %v", tasks, picks)
	}
}

func TestP3_3FreeRefusesWorkers(t *testing.T) {
	for _, w := range []int{0, -1, 17, 18, math.MinInt, math.MaxInt, 1 << 32} {
		x := atom.NewStack().Push(1)
		if e := atom.Free([]*atom.Task{x}, w); e != api.EARG {
			t.Errorf("P3.3: Free by %d workers: %d", w, e)
		}
		expect(t, "R3: a task of a Free that was refused", x, false, 0, no())
		if e := atom.Free(nil, w); e != api.EARG {
			t.Errorf("P3.3: Free of no tasks by %d workers: %d", w, e)
		}
	}
}

func TestP3_3FreeOfNoTasks(t *testing.T) {
	for w := 1; w <= api.MaxWorkers; w++ {
		if e := atom.Free(nil, w); e != api.OK {
			t.Errorf("P3.3: Free of no tasks by %d workers: %d", w, e)
		}
		if e := atom.Free([]*atom.Task{}, w); e != api.OK {
			t.Errorf("P3.3: Free of no tasks by %d workers: %d", w, e)
		}
	}
}

// crowd is tasks of all things, some begun, some done, some there twice or more.
func crowd(t *testing.T) []*atom.Task {
	s, q, o := atom.NewStack(), atom.NewQueue(), atom.NewOnce()
	z, p := slots(t, 7), snap(t, 4)
	var out []*atom.Task
	for i := range 40 {
		v := uint64(i)
		out = append(out, s.Push(v), q.Put(v), s.Pop(), q.Take(), o.Do(v), z.Take(), z.Give(i%9-1), p.Scan())
		if i < 4 {
			out = append(out, update(t, p, i, 10+v))
		}
	}
	for i, x := range out {
		for range i % 5 {
			x.Step()
		}
	}
	return slices.Concat(out, out[100:200], out[:50], out[100:120], out[319:])
}

func TestP3_3FreeDoesAllTasks(t *testing.T) {
	for round := range 64 {
		tasks := crowd(t)
		had := map[*atom.Task]answer{}
		for _, x := range tasks {
			if x.Done() {
				had[x] = of(x)
			}
		}
		if e := atom.Free(tasks, 1+round%api.MaxWorkers); e != api.OK {
			t.Fatalf("P3.3: Free by %d workers: %d", 1+round%api.MaxWorkers, e)
		}
		for i, x := range tasks {
			if was, ok := had[x]; !x.Done() || ok && of(x) != was {
				t.Fatalf("P3.3: task %d: done %v, %v", i, x.Done(), of(x))
			}
		}
		steps := tasks[0].Steps()
		if e := atom.Free(tasks, 3); e != api.OK || tasks[0].Steps() != steps {
			t.Fatalf("P3.3: tasks that are done already: %d, %d steps", e, tasks[0].Steps())
		}
	}
}

func TestP3_3FreeDoesATaskThatIsThereTwiceOnce(t *testing.T) {
	for round := range 200 {
		s, q := atom.NewStack(), atom.NewQueue()
		x, y := s.Push(5), q.Put(6)
		var tasks []*atom.Task
		for range 20 {
			tasks = append(tasks, x, y)
		}
		atom.Free(tasks, 1+round%api.MaxWorkers)
		expect(t, "P3.3: a Push that is there often", x, true, 2, yes(5))
		expect(t, "P3.3: a Put that is there often", y, true, 4, yes(6))
		expectAlone(t, "P3.3: the Pop behind it", s.Pop(), 2, yes(5))
		expectAlone(t, "P3.3: a second Pop", s.Pop(), 1, no())
		expectAlone(t, "P3.3: the Take behind it", q.Take(), 4, yes(6))
		expectAlone(t, "P3.3: a second Take", q.Take(), 3, no())
	}
}

func TestP3_3FreeOfOneWorkerIsInARow(t *testing.T) {
	q := atom.NewQueue()
	tasks := []*atom.Task{q.Take(), q.Put(1), q.Put(2), q.Take(), q.Take(), q.Take()}
	atom.Free(tasks, 1)
	for i, want := range []answer{no(), yes(1), yes(2), yes(1), yes(2), no()} {
		if of(tasks[i]) != want {
			t.Errorf("P3.3: by one worker: task %d tells %v, want %v", i, of(tasks[i]), want)
		}
	}
}

// TestP3_6FreeLosesNothing: what is pushed and put is told once, or still there.
func TestP3_6FreeLosesNothing(t *testing.T) {
	for round := range 60 {
		s, q := atom.NewStack(), atom.NewQueue()
		var tasks []*atom.Task
		const many = 150
		for i := range uint64(many) {
			tasks = append(tasks, s.Push(i), q.Put(i), s.Pop(), q.Take())
		}
		atom.Free(tasks, 1+round%api.MaxWorkers)
		for k, next := range []func() *atom.Task{s.Pop, q.Take} {
			seen := map[uint64]int{}
			for i := 2 + k; i < len(tasks); i += 4 {
				if v, ok := tasks[i].Result(); ok {
					seen[v]++
				}
			}
			for x := next(); ; x = next() {
				alone(x)
				v, ok := x.Result()
				if !ok {
					break
				}
				seen[v]++
			}
			for i := range uint64(many) {
				if seen[i] != 1 || len(seen) != many {
					t.Fatalf("P3.6: %s: %d was told %d times", []string{"a stack", "a queue"}[k], i, seen[i])
				}
			}
		}
	}
}

// TestP3_6FreeScans: a register that one Update alone sets is 0 or its number in each view, and views of which one has an Update that the other has not come one behind the other.
func TestP3_6FreeScans(t *testing.T) {
	for round := range 100 {
		p := snap(t, 6)
		var tasks, scans []*atom.Task
		for i := range 6 {
			x := p.Scan()
			scans = append(scans, x)
			tasks = append(tasks, x, update(t, p, i, uint64(10+i)))
		}
		atom.Free(tasks, 1+round%api.MaxWorkers)
		below := func(a, b []uint64) bool {
			for i := range a {
				if a[i] > b[i] {
					return false
				}
			}
			return true
		}
		for _, x := range scans {
			for i, v := range x.View() {
				if v != 0 && v != uint64(10+i) {
					t.Fatalf("P3.6: a Scan tells %v", x.View())
				}
			}
			for _, y := range scans {
				if !below(x.View(), y.View()) && !below(y.View(), x.View()) {
					t.Fatalf("P3.6: two Scans that can't be one behind the other: %v, %v", x.View(), y.View())
				}
			}
		}
	}
}

func TestR7FreeLeavesNoGoroutines(t *testing.T) {
	before := runtime.NumGoroutine()
	for range 50 {
		atom.Free(crowd(t), api.MaxWorkers)
	}
	// A goroutine that a WaitGroup has joined may take a moment to be gone from the count.
	for i := 0; i < 1000 && runtime.NumGoroutine() > before; i++ {
		runtime.Gosched()
	}
	if now := runtime.NumGoroutine(); now > before+2 {
		t.Errorf("R7: %d goroutines, %d before", now, before)
	}
}

func ExampleFree() {
	q := atom.NewQueue()
	tasks := []*atom.Task{q.Put(7), q.Put(8), q.Take(), q.Take()}
	fmt.Println(atom.Free(tasks, 4) == api.OK, tasks[3].Done())
	// Output: true true
}
