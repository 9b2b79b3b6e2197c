package pool

import (
	"sync"

	"sextant/api"
)

// Find tells the least number from 0 to n - 1 of which f holds.
func Find(n, workers int, f func(i int) bool) (int, api.Errno) {
	if refused(n, workers) {
		return 0, api.EARG
	}
	s := search{numbers: deal(n), holds: f, stop: make(chan struct{}), found: make(chan int, workers)}
	together(workers, s.work)
	close(s.found)
	return least(s.found)
}

// search is what the workers of one Find share.
type search struct {
	numbers dealer
	holds   func(i int) bool
	once    sync.Once
	stop    chan struct{} // closed when one is found
	found   chan int      // with room for one of each worker, so that none waits to tell
}

// work asks numbers, until it or another one has found one. It stops between two numbers alone: one that was dealt to it may be below what the other has found.
func (s *search) work() {
	for {
		select {
		case <-s.stop:
			return
		default:
		}
		i, ok := s.numbers.next()
		if !ok {
			return
		}
		if s.holds(i) {
			s.tell(i)
			return
		}
	}
}

func (s *search) tell(i int) {
	s.found <- i
	s.once.Do(func() { close(s.stop) })
}

// least is the least of what was found, whatever the order it was told in.
func least(found <-chan int) (int, api.Errno) {
	low, ok := <-found
	if !ok {
		return 0, api.ENONE
	}
	for i := range found {
		low = min(low, i)
	}
	return low, api.OK
}
