package pool_test

import (
	"math"
	"runtime"
	"slices"
	"sync/atomic"
	"testing"
	"time"

	"sextant/api"
	"sextant/pool"
)

func TestP4_2FindExamples(t *testing.T) {
	if i, e := pool.Find(100, 8, func(i int) bool { return i > 40 && i%7 == 0 }); e != api.OK || i != 42 {
		t.Errorf("P4.2: above 40 and divided by 7: %d, %d", i, e)
	}
	if i, e := pool.Find(10, 2, func(i int) bool { return i > 40 }); e != api.ENONE || i != 0 {
		t.Errorf("P4.2: none above 40: %d, %d", i, e)
	}
}

func TestP4_2FindRefuses(t *testing.T) {
	for _, x := range wrong {
		i, e := pool.Find(x[0], x[1], func(i int) bool {
			t.Errorf("P4.2: Find(%d, %d) asks of %d", x[0], x[1], i)
			return i > 0
		})
		if e != api.EARG || i != 0 {
			t.Errorf("P4.2, R2: Find(%d, %d): %d, %d; want EARG alone", x[0], x[1], i, e)
		}
	}
}

// holdFind asks Find for the least of some numbers, and holds what it tells, and what it asks, against the promise.
func holdFind(t *testing.T, n, workers int, holds func(i int) bool) {
	t.Helper()
	want, e := 0, api.ENONE
	must := n // all below are to be asked
	for i := range n {
		if holds(i) {
			want, e, must = i, api.OK, i+1
			break
		}
	}
	asked := make(tally, n)
	got, err := pool.Find(n, workers, func(i int) bool {
		asked.ask(i)
		return holds(i)
	})
	if got != want || err != e {
		t.Fatalf("P4.2, P4.5: Find(%d, %d): %d, %d; want %d, %d", n, workers, got, err, want, e)
	}
	if i := asked.notOnce(must); i >= 0 {
		t.Fatalf("P4.2: Find(%d, %d) is %d: %d is asked %d times", n, workers, got, i, asked[i].Load())
	}
	if i := asked.twice(); i >= 0 {
		t.Fatalf("P4.2: Find(%d, %d): %d is asked %d times", n, workers, i, asked[i].Load())
	}
}

func TestP4_2FindOfAllSetsOfFewNumbers(t *testing.T) {
	for workers := 1; workers <= api.MaxWorkers; workers++ {
		for n := range 7 {
			for set := range 1 << n {
				holdFind(t, n, workers, func(i int) bool { return set>>i&1 == 1 })
			}
		}
	}
}

func TestP4_2FindNoneFirstLast(t *testing.T) {
	for workers := 1; workers <= api.MaxWorkers; workers++ {
		for _, n := range []int{1, 2, workers, workers + 1, 500} {
			holdFind(t, n, workers, func(int) bool { return false })
			holdFind(t, n, workers, func(int) bool { return true })
			holdFind(t, n, workers, func(i int) bool { return i == 0 })
			holdFind(t, n, workers, func(i int) bool { return i == n-1 })
			holdFind(t, n, workers, func(i int) bool { return i == n/2 || i == n-1 })
		}
	}
}

// Many run into one another here: all from one number on hold, so that several are found at about one time.
func TestP4_2FindOfManyThatHold(t *testing.T) {
	roll := dice(42)
	for range 3000 {
		from := roll(40)
		idle := roll(3)
		holdFind(t, 60, 2+roll(api.MaxWorkers-1), func(i int) bool {
			for range idle * (i & 3) {
				runtime.Gosched()
			}
			return i >= from
		})
	}
}

// More threads than processors: some worker has been dealt a number, and is held up, while another one finds the greatest.
func TestP4_2FindAsksWhatWasDealt(t *testing.T) {
	defer runtime.GOMAXPROCS(runtime.GOMAXPROCS(4 * runtime.NumCPU()))
	const n = 5000
	for range 200 {
		holdFind(t, n, api.MaxWorkers, func(i int) bool { return i == n-1 })
	}
}

// The least one, dealt ahead of the others, answers behind all of them.
func TestP4_2FindWhenTheLeastAnswersLast(t *testing.T) {
	for workers := 2; workers <= api.MaxWorkers; workers++ {
		answered := signs(workers)
		i, e := pool.Find(1000, workers, func(i int) bool {
			if i >= workers {
				return false
			}
			if i+1 < workers {
				arrive(t, "P4.2: the number behind", answered[i+1])
				time.Sleep(time.Millisecond / 2) // so that the other has been told
			}
			close(answered[i])
			return true
		})
		if e != api.OK || i != 0 {
			t.Errorf("P4.2: %d workers: %d, %d; want 0", workers, i, e)
		}
	}
}

// A greater one is being asked while the least is found, and answers that it holds too.
func TestP4_2FindWhenAGreaterOneAnswersLast(t *testing.T) {
	for workers := 2; workers <= api.MaxWorkers; workers++ {
		greater, least := make(chan struct{}), make(chan struct{})
		i, e := pool.Find(2, workers, func(i int) bool {
			if i == 1 {
				close(greater)
				arrive(t, "P4.2: the least", least)
				time.Sleep(time.Millisecond / 2)
				return true
			}
			arrive(t, "P4.2: the greater", greater)
			close(least)
			return true
		})
		if e != api.OK || i != 0 {
			t.Errorf("P4.2: %d workers: %d, %d; want 0", workers, i, e)
		}
	}
}

// One that holds is found while a lesser one, of which it does not hold, is still being asked.
func TestP4_2FindWaitsForLesserOnes(t *testing.T) {
	found := make(chan struct{})
	var ended atomic.Bool
	i, e := pool.Find(50, 2, func(i int) bool {
		switch i {
		case 3:
			arrive(t, "P4.2: the one that holds", found)
			time.Sleep(time.Millisecond)
			ended.Store(true)
		case 20:
			close(found)
			return true
		}
		return false
	})
	if e != api.OK || i != 20 || !ended.Load() {
		t.Errorf("P4.2: %d, %d, %v; want 20", i, e, ended.Load())
	}
}

// What is found stops the others: there are more numbers than anybody can ask.
func TestP4_2FindStopsTheOthers(t *testing.T) {
	for workers := 1; workers <= api.MaxWorkers; workers++ {
		for _, n := range []int{1 << 40, math.MaxInt} {
			if i, e := pool.Find(n, workers, func(i int) bool { return i == 1000 }); e != api.OK || i != 1000 {
				t.Errorf("P4.2: Find(%d, %d): %d, %d", n, workers, i, e)
			}
		}
	}
}

func TestP4_5FindIsTheSameForAllWorkers(t *testing.T) {
	roll := dice(7)
	for range 200 {
		n := roll(200)
		numbers := make([]int, roll(5))
		for k := range numbers {
			numbers[k] = roll(200)
		}
		holds := func(i int) bool { return slices.Contains(numbers, i) }
		one, e := pool.Find(n, 1, holds)
		for workers := 2; workers <= api.MaxWorkers; workers++ {
			if i, err := pool.Find(n, workers, holds); i != one || err != e {
				t.Fatalf("P4.5: Find(%d, %d) of %v: %d, %d; of one worker %d, %d", n, workers, numbers, i, err, one, e)
			}
		}
	}
}

func TestR7FindHasEndedWhenItAnswers(t *testing.T) {
	before := runtime.NumGoroutine()
	for n := range 300 {
		var inside atomic.Int64
		pool.Find(1000, api.MaxWorkers, func(i int) bool {
			inside.Add(1)
			runtime.Gosched()
			inside.Add(-1)
			return i == n
		})
		if inside.Load() != 0 {
			t.Fatalf("R7: Find has answered, and %d are still at work", inside.Load())
		}
	}
	gone(t, "Find", before)
}
