package pool

import (
	"sync"

	"sextant/atom"
)

// dealer gives the numbers from 0 to n - 1, each once, to whoever asks: a number is given only when all below it are, on which Find leans.
type dealer struct {
	given *atom.Cell
	n     uint64
}

func deal(n int) dealer { return dealer{given: atom.NewCell(0), n: uint64(n)} }

// next gives the next number, and whether there was one.
func (d dealer) next() (int, bool) {
	i := d.given.Add(1)
	return int(i), i < d.n
}

// together lets so many goroutines do the work side by side, and waits for all of them.
func together(workers int, work func()) {
	var group sync.WaitGroup
	for range workers {
		group.Go(work)
	}
	group.Wait()
}
