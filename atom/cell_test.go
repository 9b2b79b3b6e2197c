package atom_test

import (
	"math"
	"slices"
	"sync"
	"testing"

	"sextant/atom"
)

func edges() []uint64 {
	return []uint64{0, 1, 2, 3, 41, 42, 1<<32 - 1, 1 << 32, 1<<63 - 1, 1 << 63, math.MaxUint64 - 1, math.MaxUint64}
}

func TestP3_4CellsCalls(t *testing.T) {
	for _, was := range edges() {
		for _, v := range edges() {
			for _, w := range edges() {
				cas := was
				if was == v {
					cas = w
				}
				for name, call := range map[string]struct {
					do   func(*atom.Cell) uint64
					want uint64
				}{
					"Load":  {func(c *atom.Cell) uint64 { return c.Load() }, was},
					"Store": {func(c *atom.Cell) uint64 { c.Store(v); return was }, v},
					"Swap":  {func(c *atom.Cell) uint64 { return c.Swap(v) }, v},
					"Add":   {func(c *atom.Cell) uint64 { return c.Add(v) }, was + v},
					"CAS":   {func(c *atom.Cell) uint64 { return c.CAS(v, w) }, cas},
					"Raise": {func(c *atom.Cell) uint64 { return c.Raise(v) }, max(was, v)},
				} {
					c, other := atom.NewCell(was), atom.NewCell(was)
					if told := call.do(c); told != was || c.Load() != call.want || other.Load() != was {
						t.Fatalf("P3.4: %s of a cell of %d with %d, %d: told %d, then %d; want %d", name, was, v, w, told, c.Load(), call.want)
					}
				}
			}
		}
	}
}

// side lets goroutines call at one time, and gives all that they were told, from the least on.
func side(many, calls int, call func(worker, i int) uint64) []uint64 {
	told := make([][]uint64, many)
	var wg sync.WaitGroup
	for w := range many {
		wg.Go(func() {
			for i := range calls {
				told[w] = append(told[w], call(w, i))
			}
		})
	}
	wg.Wait()
	return slices.Sorted(slices.Values(slices.Concat(told...)))
}

const (
	crew  = 8
	calls = 3000
)

// upTo is 0 to n - 1.
func upTo(n int) []uint64 {
	out := make([]uint64, n)
	for i := range out {
		out[i] = uint64(i)
	}
	return out
}

func TestP3_4AddAtOneMoment(t *testing.T) {
	c := atom.NewCell(0)
	told := side(crew, calls, func(int, int) uint64 { return c.Add(1) })
	if c.Load() != crew*calls || !slices.Equal(told, upTo(crew*calls)) {
		t.Errorf("P3.4: Add from many: %d", c.Load())
	}
}

func TestP3_4SwapAtOneMoment(t *testing.T) {
	c := atom.NewCell(0)
	told := side(crew, calls, func(w, i int) uint64 { return c.Swap(uint64(w*calls + i + 1)) })
	if told = append(told, c.Load()); !slices.Equal(slices.Sorted(slices.Values(told)), upTo(crew*calls+1)) {
		t.Errorf("P3.4: Swap from many: some number was told twice")
	}
}

func TestP3_4CASAtOneMoment(t *testing.T) {
	c := atom.NewCell(0)
	told := side(crew, calls, func(int, int) uint64 {
		for {
			if was := c.Load(); c.CAS(was, was+1) == was {
				return was
			}
		}
	})
	if c.Load() != crew*calls || !slices.Equal(told, upTo(crew*calls)) {
		t.Errorf("P3.4: CAS from many: %d", c.Load())
	}
}

func TestP3_4RaiseAtOneMoment(t *testing.T) {
	c := atom.NewCell(0)
	var mu sync.Mutex
	raised := map[uint64]uint64{} // from what to what
	side(crew, calls, func(w, i int) uint64 {
		v := uint64(i*crew + w)
		was := c.Raise(v)
		if was < v {
			mu.Lock()
			defer mu.Unlock()
			if _, twice := raised[was]; twice {
				t.Errorf("P3.4: Raise: two raised %d", was)
			}
			raised[was] = v
		}
		return was
	})
	at := uint64(0)
	for n := len(raised); n > 0; n-- {
		to, ok := raised[at]
		if !ok || to <= at {
			t.Fatalf("P3.4: Raise: nobody raised %d", at)
		}
		at = to
	}
	if at != c.Load() || at != crew*calls-1 {
		t.Errorf("P3.4: Raise from many: %d, %d", at, c.Load())
	}
}

func TestP3_4StoreAndLoadWhole(t *testing.T) {
	c := atom.NewCell(0)
	side(crew, calls, func(w, i int) uint64 {
		stored := uint64(w)
		c.Store(stored<<32 | stored)
		if v := c.Load(); v>>32 != v&(1<<32-1) || v>>32 >= crew {
			t.Errorf("P3.4: Load tells %x, which nobody stored", v)
		}
		return 0
	})
}
