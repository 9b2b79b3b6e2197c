package atom

import "sync/atomic"

// Once is something that is done by one.
type Once struct{ did atomic.Pointer[uint64] }

// NewOnce makes one.
func NewOnce() *Once { return &Once{} }

// Do is the task to do it, if nobody has, and to tell what was done else.
func (o *Once) Do(v uint64) *Task {
	d := &deed{Task: &Task{}, once: o, own: &v}
	d.todo = d.swapDid
	return d.Task
}

type deed struct {
	*Task
	once *Once
	own  *uint64
}

func (d *deed) swapDid() {
	if d.once.did.CompareAndSwap(nil, d.own) {
		d.succeed(*d.own)
	} else {
		d.todo = d.loadDid
	}
}

func (d *deed) loadDid() { d.finish(outcome{number: *d.once.did.Load()}) }
