package cpu

import "sextant/api"

// set is one of numbers from 0 to api.MaxEvents - 1. An assignment copies it.
type set[T ~int] struct {
	bits [api.MaxEvents / 64]uint64
}

// only is the set of one number.
func only[T ~int](n T) (s set[T]) {
	s.bits[n/64] = 1 << (n % 64)
	return s
}

// with is the set of what is in either.
func (s set[T]) with(other set[T]) set[T] {
	for i, b := range other.bits {
		s.bits[i] |= b
	}
	return s
}

func (s set[T]) has(n T) bool { return s.bits[n/64]>>(n%64)&1 == 1 }
