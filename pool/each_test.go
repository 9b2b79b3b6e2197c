package pool_test

import (
	"fmt"
	"runtime"
	"slices"
	"strconv"
	"sync/atomic"
	"testing"

	"sextant/api"
	"sextant/pool"
)

func TestP4_1EachExamples(t *testing.T) {
	if l, e := pool.Each(4, 3, square); e != api.OK || !slices.Equal(l, []int{0, 1, 4, 9}) {
		t.Errorf("P4.1: Each(4, 3, square): %v, %d", l, e)
	}
	if l, e := pool.Each(0, 1, square); e != api.OK || len(l) != 0 {
		t.Errorf("P4.1: Each(0, 1, square): %v, %d", l, e)
	}
}

func TestP4_1EachRefuses(t *testing.T) {
	for _, x := range wrong {
		l, e := pool.Each(x[0], x[1], func(i int) int {
			t.Errorf("P4.1: Each(%d, %d) asks of %d", x[0], x[1], i)
			return 1
		})
		if e != api.EARG || len(l) != 0 {
			t.Errorf("P4.1, R2: Each(%d, %d): %v, %d; want EARG alone", x[0], x[1], l, e)
		}
	}
}

func TestP4_1EachAsksEachNumberOnceAndTellsInOrder(t *testing.T) {
	for workers := 1; workers <= api.MaxWorkers; workers++ {
		for _, n := range []int{0, 1, 2, workers - 1, workers, workers + 1, 16, 17, 1000} {
			asked := make(tally, n)
			l, e := pool.Each(n, workers, func(i int) string {
				asked.ask(i)
				return strconv.Itoa(i)
			})
			if e != api.OK || len(l) != n {
				t.Fatalf("P4.1: Each(%d, %d): %d answers, %d", n, workers, len(l), e)
			}
			for i, s := range l {
				if s != strconv.Itoa(i) {
					t.Fatalf("P4.1, P4.5: Each(%d, %d): answer %d is %s", n, workers, i, s)
				}
			}
			if i := asked.notOnce(n); i >= 0 {
				t.Fatalf("P4.1: Each(%d, %d): %d is asked %d times", n, workers, i, asked[i].Load())
			}
		}
	}
}

// The later number always answers first.
func TestP4_1EachTellsInOrderWhoeverIsFirst(t *testing.T) {
	for workers := 2; workers <= api.MaxWorkers; workers++ {
		answered := signs(workers)
		l, e := pool.Each(workers, workers, func(i int) int {
			if i+1 < workers {
				arrive(t, "P4.1: the number behind", answered[i+1])
			}
			close(answered[i])
			return -i
		})
		if e != api.OK || len(l) != workers {
			t.Fatalf("P4.1: %v, %d", l, e)
		}
		for i, v := range l {
			if v != -i {
				t.Errorf("P4.1: %d workers: answer %d is %d", workers, i, v)
			}
		}
	}
}

func TestP4_1EachOfAnyType(t *testing.T) {
	type pair struct {
		n    int
		text string
	}
	if l, e := pool.Each(3, 2, func(i int) pair { return pair{i, fmt.Sprint(i)} }); e != api.OK || !slices.Equal(l, []pair{{0, "0"}, {1, "1"}, {2, "2"}}) {
		t.Errorf("P4.1: of structs: %v, %d", l, e)
	}
	if l, e := pool.Each(3, 2, func(i int) error { return nil }); e != api.OK || len(l) != 3 || l[0] != nil {
		t.Errorf("P4.1: of nil errors: %v, %d", l, e)
	}
	if l, e := pool.Each(1000, 3, func(i int) struct{} { return struct{}{} }); e != api.OK || len(l) != 1000 {
		t.Errorf("P4.1: of nothing: %d, %d", len(l), e)
	}
	l, e := pool.Each(5, 4, func(i int) []int { return slices.Repeat([]int{i}, i) })
	if e != api.OK || fmt.Sprint(l) != "[[] [1] [2 2] [3 3 3] [4 4 4 4]]" {
		t.Errorf("P4.1: of lists: %v, %d", l, e)
	}
}

// So many workers are in f at one time, and never more.
func TestEachWorkersWorkSideBySide(t *testing.T) {
	for workers := 1; workers <= api.MaxWorkers; workers++ {
		var came, inside, most atomic.Int64
		all := make(chan struct{})
		pool.Each(10*workers, workers, func(i int) int {
			if now := inside.Add(1); now > int64(workers) {
				most.Store(now)
			}
			if came.Add(1) == int64(workers) {
				close(all)
			}
			arrive(t, "Words: all workers at one time", all)
			runtime.Gosched()
			inside.Add(-1)
			return i
		})
		if most.Load() != 0 {
			t.Errorf("Words: %d at one time, of %d workers", most.Load(), workers)
		}
	}
}

func TestEachWithinEach(t *testing.T) {
	l, e := pool.Each(20, 4, func(i int) int {
		inner, _ := pool.Each(i, 3, square)
		sum := 0
		for _, v := range inner {
			sum += v
		}
		return sum
	})
	if e != api.OK || len(l) != 20 || l[0] != 0 || l[4] != 0+1+4+9 || l[19] != 2109 {
		t.Errorf("P4.1: Each within Each: %v, %d", l, e)
	}
}

func TestR4EachAnswersNewMemory(t *testing.T) {
	a, _ := pool.Each(5, 2, square)
	b, _ := pool.Each(5, 2, square)
	for i := range a[:cap(a)] {
		a[:cap(a)][i] = 99
	}
	if !slices.Equal(b, []int{0, 1, 4, 9, 16}) {
		t.Errorf("R4: a second answer shares memory with the first: %v", b)
	}
}

func TestR7EachHasEndedWhenItAnswers(t *testing.T) {
	before := runtime.NumGoroutine()
	for n := range 100 {
		var inside atomic.Int64
		pool.Each(n, api.MaxWorkers, func(int) int {
			inside.Add(1)
			runtime.Gosched()
			return int(inside.Add(-1))
		})
		if inside.Load() != 0 {
			t.Fatalf("R7: Each(%d) has answered, and %d are still at work", n, inside.Load())
		}
	}
	gone(t, "Each", before)
}
