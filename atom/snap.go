package atom

import (
	"slices"
	"sync/atomic"

	"sextant/api"
)

const maxRegisters = 16

// Snap is some registers that are looked at all at once.
type Snap struct {
	registers []atomic.Pointer[record] // none: 0, no Update has been yet
	claims    []atomic.Pointer[record] // what the last Update of each lays: it is done just if that is there
}

// record is what an Update lays: its number, and what its Scan has seen.
type record struct {
	number uint64
	seen   []uint64
}

// NewSnap makes so many, all 0.
func NewSnap(n int) (*Snap, api.Errno) {
	if n < 1 || n > maxRegisters {
		return nil, api.EARG
	}
	return &Snap{
		registers: make([]atomic.Pointer[record], n),
		claims:    make([]atomic.Pointer[record], n),
	}, api.OK
}

// Update is the task to set a register.
func (s *Snap) Update(i int, v uint64) (*Task, api.Errno) {
	own := &record{number: v}
	if i < 0 || i >= len(s.registers) || !s.claim(i, own) {
		return nil, api.EARG
	}
	u := &update{Task: &Task{}, look: newLook(s), register: i, own: own}
	u.todo = u.loadNext
	return u.Task, api.OK
}

// claim makes an Update's record the next one of a register, unless the last one is not there yet. If the swap is not done, an Update came between, and was not done then.
func (s *Snap) claim(i int, own *record) bool {
	last := s.claims[i].Load()
	return s.registers[i].Load() == last && s.claims[i].CompareAndSwap(last, own)
}

// Scan is the task to look at all of them.
func (s *Snap) Scan() *Task {
	c := &scan{Task: &Task{}, look: newLook(s)}
	c.todo = c.loadNext
	return c.Task
}

type scan struct {
	*Task
	look *look
}

func (c *scan) loadNext() {
	if view := c.look.load(); view != nil {
		c.finish(outcome{ok: true, view: view})
	}
}

type update struct {
	*Task
	look     *look
	register int
	own      *record
}

func (u *update) loadNext() {
	if view := u.look.load(); view != nil {
		u.own.seen = view
		u.todo = u.store
	}
}

// store needs no compare: no other Update of the register is there, until this one is done.
func (u *update) store() {
	u.look.snap.registers[u.register].Store(u.own)
	u.succeed(u.own.number)
}

// look is collects, one behind the other.
type look struct {
	snap       *Snap
	last, this []*record
	moved      []bool // behind an earlier collect
}

func newLook(s *Snap) *look { return &look{snap: s, moved: make([]bool, len(s.registers))} }

// load is one step: the next register of this collect. It tells what is seen, once that is known; none else.
func (l *look) load() []uint64 {
	l.this = append(l.this, l.snap.registers[len(l.this)].Load())
	if len(l.this) < len(l.moved) {
		return nil
	}
	view := l.compare()
	l.last, l.this = l.this, l.last[:0]
	return view
}

// compare holds a collect against the one ahead of it. An Update that laid a register which moved twice has begun and ended while this look went on, and so what it saw is of that time.
func (l *look) compare() []uint64 {
	if len(l.last) == 0 {
		return nil
	}
	if slices.Equal(l.this, l.last) {
		return numbers(l.this)
	}
	for i, r := range l.this {
		if r == l.last[i] {
			continue
		}
		if l.moved[i] {
			return r.seen
		}
		l.moved[i] = true
	}
	return nil
}

func numbers(records []*record) []uint64 {
	out := make([]uint64, len(records))
	for i, r := range records {
		if r != nil {
			out[i] = r.number
		}
	}
	return out
}
