package atom

// place is an atomic number or pointer.
type place[T any] interface {
	Load() T
	CompareAndSwap(old, new T) bool
}

// rule says of what was loaded what shall be there, and what the task then tells; not ok, if there is nothing to do.
type rule[T any] func(was T) (now T, tells uint64, ok bool)

// change loads one place and swaps it by a rule, until the swap is done: a swap that is not means that another task's was.
type change[T any] struct {
	*Task
	place    place[T]
	rule     rule[T]
	was, now T
	tells    uint64
}

func newChange[T any](p place[T], r rule[T]) *Task {
	c := &change[T]{Task: &Task{}, place: p, rule: r}
	c.todo = c.load
	return c.Task
}

func (c *change[T]) load() {
	ok := false
	c.was = c.place.Load()
	c.now, c.tells, ok = c.rule(c.was)
	if ok {
		c.todo = c.swap
	} else {
		c.fail()
	}
}

func (c *change[T]) swap() {
	if c.place.CompareAndSwap(c.was, c.now) {
		c.succeed(c.tells)
	} else {
		c.todo = c.load
	}
}
