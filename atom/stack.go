package atom

import "sync/atomic"

// Stack is one of numbers.
type Stack struct{ top atomic.Pointer[plate] }

// plate is a node of a stack. Each is laid once at the most, so that a top which is the same as before has the same below it.
type plate struct {
	number uint64
	below  *plate
}

// NewStack makes an empty one.
func NewStack() *Stack { return &Stack{} }

// Push is the task to lay a number on it.
func (s *Stack) Push(v uint64) *Task {
	return newChange(&s.top, func(top *plate) (*plate, uint64, bool) {
		return &plate{number: v, below: top}, v, true
	})
}

// Pop is the task to take the topmost one.
func (s *Stack) Pop() *Task {
	return newChange(&s.top, func(top *plate) (*plate, uint64, bool) {
		if top == nil {
			return nil, 0, false
		}
		return top.below, top.number, true
	})
}
