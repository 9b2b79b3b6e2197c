package pool_test

import (
	"slices"
	"testing"

	"sextant/api"
	"sextant/atom"
	"sextant/pool"
)

// A cell's calls, asked by the goroutines of a pool, are each done at one moment (P3.4).

const many = 20000

// upTo is 0 to n - 1.
func upTo(n int) []uint64 {
	out := make([]uint64, n)
	for i := range out {
		out[i] = uint64(i)
	}
	return out
}

func TestP3_4AddByWorkers(t *testing.T) {
	c := atom.NewCell(0)
	was, _ := pool.Each(many, api.MaxWorkers, func(int) uint64 { return c.Add(1) })
	if c.Load() != many || !slices.Equal(slices.Sorted(slices.Values(was)), upTo(many)) {
		t.Errorf("P3.4: Add by workers: %d", c.Load())
	}
}

func TestP3_4SwapByWorkers(t *testing.T) {
	c := atom.NewCell(many)
	was, _ := pool.Each(many, api.MaxWorkers, func(i int) uint64 { return c.Swap(uint64(i)) })
	if was = append(was, c.Load()); !slices.Equal(slices.Sorted(slices.Values(was)), upTo(many+1)) {
		t.Errorf("P3.4: Swap by workers: some number is told twice")
	}
}

func TestP3_4CASByWorkers(t *testing.T) {
	c := atom.NewCell(0)
	won, _ := pool.Each(many, api.MaxWorkers, func(i int) bool { return c.CAS(0, uint64(i)+1) == 0 })
	winner := slices.Index(won, true)
	if winner < 0 || slices.Contains(won[winner+1:], true) || c.Load() != uint64(winner)+1 {
		t.Errorf("P3.4: CAS by workers: %d has won, the cell is %d", winner, c.Load())
	}
}

func TestP3_4RaiseByWorkers(t *testing.T) {
	c := atom.NewCell(0)
	was, _ := pool.Each(many, api.MaxWorkers, func(i int) uint64 { return c.Raise(uint64(i) * 7 % many) })
	raised := 0
	for i, w := range was {
		if v := uint64(i) * 7 % many; w < v && slices.Index(was, v) < 0 && v != c.Load() {
			t.Errorf("P3.4: Raise by workers: %d was never seen", v)
		} else if w < v {
			raised++
		}
	}
	if c.Load() != many-1 || raised == 0 {
		t.Errorf("P3.4: Raise by workers: %d, raised %d times", c.Load(), raised)
	}
}

func TestP3_4StoreAndLoadByWorkers(t *testing.T) {
	c := atom.NewCell(0)
	broken, e := pool.Find(many, api.MaxWorkers, func(i int) bool {
		c.Store(uint64(i)<<32 | uint64(i))
		v := c.Load()
		return v>>32 != v&(1<<32-1) || v>>32 >= many
	})
	if e != api.ENONE {
		t.Errorf("P3.4: Load tells what nobody stored, at %d", broken)
	}
}
