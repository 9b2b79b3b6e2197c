package atom

import (
	"sync"
	"sync/atomic"
)

// Queue is one of numbers.
type Queue struct {
	begun sync.Once
	first atomic.Pointer[link] // the node ahead of the first number
	last  atomic.Pointer[link] // the last node, or the one ahead of it, while a Put has its last step to do
}

// link is a node of a queue.
type link struct {
	number uint64
	next   atomic.Pointer[link]
}

// NewQueue makes an empty one.
func NewQueue() *Queue { return &Queue{} }

// begin lays the node of no number. Each task asks for it, from any goroutine: the first one to ask makes it for all.
func (q *Queue) begin() {
	q.begun.Do(func() {
		none := &link{}
		q.first.CompareAndSwap(nil, none)
		q.last.CompareAndSwap(nil, none)
	})
}

// Put is the task to lay a number behind the others.
func (q *Queue) Put(v uint64) *Task {
	q.begin()
	p := &put{Task: &Task{}, queue: q, own: &link{number: v}}
	p.todo = p.loadLast
	return p.Task
}

// Take is the task to take the first one.
func (q *Queue) Take() *Task {
	q.begin()
	t := &take{Task: &Task{}, queue: q}
	t.todo = t.loadFirst
	return t.Task
}

type put struct {
	*Task
	queue           *Queue
	own, last, next *link
}

func (p *put) loadLast() {
	p.last = p.queue.last.Load()
	p.todo = p.loadNext
}

func (p *put) loadNext() {
	p.next = p.last.next.Load()
	if p.next == nil {
		p.todo = p.swapNext
	} else {
		p.todo = p.helpLast
	}
}

func (p *put) swapNext() {
	if p.last.next.CompareAndSwap(nil, p.own) {
		p.todo = p.swapLast
	} else {
		p.todo = p.loadLast
	}
}

// swapLast need not be done: then another task has helped.
func (p *put) swapLast() {
	p.queue.last.CompareAndSwap(p.last, p.own)
	p.succeed(p.own.number)
}

func (p *put) helpLast() {
	p.queue.last.CompareAndSwap(p.last, p.next)
	p.todo = p.loadLast
}

type take struct {
	*Task
	queue             *Queue
	first, last, next *link
}

func (t *take) loadFirst() {
	t.first = t.queue.first.Load()
	t.todo = t.loadLast
}

func (t *take) loadLast() {
	t.last = t.queue.last.Load()
	t.todo = t.loadNext
}

func (t *take) loadNext() {
	t.next = t.first.next.Load()
	switch {
	case t.next == nil:
		t.fail()
	case t.first == t.last:
		t.todo = t.helpLast
	default:
		t.todo = t.swapFirst
	}
}

// helpLast keeps first from getting ahead of last.
func (t *take) helpLast() {
	t.queue.last.CompareAndSwap(t.last, t.next)
	t.todo = t.loadFirst
}

func (t *take) swapFirst() {
	if t.queue.first.CompareAndSwap(t.first, t.next) {
		t.succeed(t.next.number)
	} else {
		t.todo = t.loadFirst
	}
}
