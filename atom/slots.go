package atom

import (
	"math/bits"
	"sync/atomic"

	"sextant/api"
)

const maxRoom = 64

// Slots are numbers to be lent.
type Slots struct {
	room int
	lent atomic.Uint64 // a bit each
}

// NewSlots makes so many, all free.
func NewSlots(room int) (*Slots, api.Errno) {
	if room < 1 || room > maxRoom {
		return nil, api.EARG
	}
	return &Slots{room: room}, api.OK
}

// Take is the task to borrow the least free one.
func (s *Slots) Take() *Task {
	return newChange(&s.lent, func(lent uint64) (uint64, uint64, bool) {
		slot := bits.TrailingZeros64(^lent)
		return lent | 1<<slot, uint64(slot), slot < s.room
	})
}

// Give is the task to give one back.
func (s *Slots) Give(slot int) *Task {
	return newChange(&s.lent, func(lent uint64) (uint64, uint64, bool) {
		if slot < 0 || slot >= s.room || lent>>slot&1 == 0 {
			return 0, 0, false
		}
		return lent &^ (1 << slot), uint64(slot), true
	})
}
