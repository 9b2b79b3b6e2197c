package atom

import "sync/atomic"

// Cell is a number.
type Cell struct{ number atomic.Uint64 }

// NewCell makes one.
func NewCell(v uint64) *Cell {
	c := &Cell{}
	c.Store(v)
	return c
}

// Load tells it.
func (c *Cell) Load() uint64 { return c.number.Load() }

// Store sets it.
func (c *Cell) Store(v uint64) { c.Swap(v) }

// Swap sets it, and tells what it was.
func (c *Cell) Swap(v uint64) uint64 {
	return c.change(func(uint64) uint64 { return v })
}

// Add adds to it, and tells what it was.
func (c *Cell) Add(d uint64) uint64 {
	return c.change(func(was uint64) uint64 { return was + d })
}

// CAS sets it, if it is old, and tells what it was.
func (c *Cell) CAS(old, new uint64) uint64 {
	return c.change(func(was uint64) uint64 {
		if was == old {
			return new
		}
		return was
	})
}

// Raise makes it v at least, and tells what it was.
func (c *Cell) Raise(v uint64) uint64 {
	return c.change(func(was uint64) uint64 { return max(was, v) })
}

// change makes the number what a function makes of it, and tells what it was. A swap that is not done means that another call's was, so that all together get on.
func (c *Cell) change(to func(was uint64) uint64) uint64 {
	for {
		was := c.number.Load()
		// Where nothing is to change, the load was the one moment.
		if now := to(was); now == was || c.number.CompareAndSwap(was, now) {
			return was
		}
	}
}
