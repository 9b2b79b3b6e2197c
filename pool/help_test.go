package pool_test

import (
	"math"
	"runtime"
	"sync/atomic"
	"testing"
	"time"

	"sextant/api"
)

// dice gives numbers from 0 to n - 1 that look like chance and are the same in each run.
func dice(seed uint64) func(n int) int {
	return func(n int) int {
		seed += 0x9e3779b97f4a7c15
		z := (seed ^ seed>>30) * 0xbf58476d1ce4e5b9
		z = (z ^ z>>27) * 0x94d049bb133111eb
		return int((z ^ z>>31) % uint64(n))
	}
}

func square(i int) int { return i * i }

// wrong are numbers and workers that are refused, the workers' last bounds among them.
var wrong = [][2]int{
	{-1, 1}, {math.MinInt, 1}, {-1, api.MaxWorkers},
	{1, 0}, {1, -1}, {1, api.MaxWorkers + 1}, {1, math.MinInt}, {1, math.MaxInt},
	{0, 0}, {0, -1}, {0, api.MaxWorkers + 1}, {math.MaxInt, api.MaxWorkers + 1},
	{-1, 0}, {-1, api.MaxWorkers + 1},
}

// tally counts how often each number was asked.
type tally []atomic.Int64

func (k tally) ask(i int) { k[i].Add(1) }

// notOnce tells a number below a bound that was not asked just once; -1 if there is none.
func (k tally) notOnce(below int) int {
	for i := range below {
		if k[i].Load() != 1 {
			return i
		}
	}
	return -1
}

// twice tells a number that was asked more than once; -1 if there is none.
func (k tally) twice() int {
	for i := range k {
		if k[i].Load() > 1 {
			return i
		}
	}
	return -1
}

// arrive waits for a sign, but not for ever.
func arrive(t *testing.T, what string, sign <-chan struct{}) {
	t.Helper()
	select {
	case <-sign:
	case <-time.After(20 * time.Second):
		t.Errorf("%s: nobody came", what)
	}
}

// gone waits until there are no more goroutines than before: one that a WaitGroup has joined may take a moment to be gone from the count.
func gone(t *testing.T, what string, before int) {
	t.Helper()
	for i := 0; i < 5000 && runtime.NumGoroutine() > before; i++ {
		time.Sleep(time.Millisecond)
	}
	if now := runtime.NumGoroutine(); now > before {
		t.Errorf("R7: %s: %d goroutines, %d before", what, now, before)
	}
}

// signs makes so many.
func signs(n int) []chan struct{} {
	out := make([]chan struct{}, n)
	for i := range out {
		out[i] = make(chan struct{})
	}
	return out
}
