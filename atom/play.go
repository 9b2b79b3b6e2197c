package atom

import (
	"sync"

	"sextant/api"
)

// Play steps tasks in the order of picks, and tells how many steps were done.
func Play(tasks []*Task, picks []int) int {
	if len(tasks) == 0 {
		return 0
	}
	done := 0
	for _, p := range picks {
		if t := tasks[modulo(p, len(tasks))]; !t.Done() {
			t.Step()
			done++
		}
	}
	return done
}

// modulo is from 0 to n - 1 for numbers below 0 too.
func modulo(p, n int) int { return (p%n + n) % n }

// Free lets goroutines do all tasks.
func Free(tasks []*Task, workers int) api.Errno {
	if workers < 1 || workers > api.MaxWorkers {
		return api.EARG
	}
	dealt := NewCell(0)
	var group sync.WaitGroup
	for range workers {
		group.Go(func() { work(tasks, dealt) })
	}
	group.Wait()
	return api.OK
}

// work does tasks whole, the next that was not dealt yet, until all are dealt.
func work(tasks []*Task, dealt *Cell) {
	for i := dealt.Add(1); i < uint64(len(tasks)); i = dealt.Add(1) {
		t := tasks[i]
		t.free.Do(t.run)
	}
}

func (t *Task) run() {
	for !t.Done() {
		t.Step()
	}
}
