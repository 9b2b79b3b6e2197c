package seq

import (
	"sextant/api"
	"sextant/rel"
)

// axiom is one of a model's: broken tells the events by which a graph breaks it, none if it does not.
type axiom interface {
	number() int
	broken(x *execution) []int
}

// firstBroken is both models, each by its own axioms in the order in which they are asked.
func firstBroken[A axiom](g api.Graph, axioms ...A) (number int, by []int, e api.Errno) {
	x, e := newExecution(g)
	if e != api.OK {
		return 0, nil, e
	}
	for _, a := range axioms {
		if by = a.broken(x); len(by) > 0 {
			return a.number(), by, api.OK
		}
	}
	return 0, nil, api.OK
}

// scAxiom is one of sequential consistency, by its number.
type scAxiom int

func (a scAxiom) number() int { return int(a) }

func (a scAxiom) broken(x *execution) []int {
	if a == Atomicity {
		return x.torn()
	}
	return x.outOfOrder(x.Po)
}

// tsoAxiom is one of TSO, by its number.
type tsoAxiom int

func (a tsoAxiom) number() int { return int(a) }

func (a tsoAxiom) broken(x *execution) []int {
	switch a {
	case Order:
		return x.outOfOrder(rel.Inter(x.Po, x.Same))
	case Atomicity:
		return x.torn()
	}
	return x.outOfMemoryOrder()
}
