package seq

import (
	"sextant/api"
	"sextant/graph"
	"sextant/rel"
)

// execution is a well-formed graph, of the source or of the words, with its relations.
type execution struct {
	source api.Graph
	graph.Facts
}

func newExecution(g api.Graph) (*execution, api.Errno) {
	f, e := graph.Derive(g)
	if e != api.OK {
		return nil, e
	}
	return &execution{source: g, Facts: f}, api.OK
}

// outOfOrder looks for events that the cells' orders and a part of po put in a ring.
func (x *execution) outOfOrder(po *rel.Rel) []int {
	return rel.Cycle(rel.Union(po, x.Rf, x.Co, x.Fr))
}

// torn looks for the first pair that another write comes between.
func (x *execution) torn() []int {
	between := rel.Comp(x.Fr, x.Co)
	for _, p := range x.source.Rmw {
		if between.Has(p.A, p.B) {
			return []int{p.A, p.B}
		}
	}
	return nil
}

// outOfMemoryOrder looks for events that no order of the memory that all threads share has room for. What a thread reads of its own writes tells nothing of that order: such a write may still be on its way.
func (x *execution) outOfMemoryOrder() []int {
	return rel.Cycle(rel.Union(x.keptOrder(), rel.Inter(x.Rf, x.Ext), x.Co, x.Fr))
}

// keptOrder is what TSO keeps of po: all between accesses, but that a write may come to memory behind later reads, unless a barrier or a pair stands in between or is one of the two.
func (x *execution) keptOrder() *rel.Rel {
	accesses, pairs := x.those(isAccess), x.ident(x.paired())
	return rel.Union(
		rel.Cut(x.Po, x.Reads, accesses),
		rel.Cut(x.Po, accesses, x.Writes),
		rel.Comp(rel.Comp(x.Po, x.ident(x.those(isBarrier))), x.Po),
		rel.Comp(x.Po, pairs),
		rel.Comp(pairs, x.Po),
	)
}

// paired tells which events are of a pair.
func (x *execution) paired() []bool {
	out := make([]bool, len(x.source.Events))
	for _, p := range x.source.Rmw {
		out[p.A], out[p.B] = true, true
	}
	return out
}

func (x *execution) those(holds func(e api.Event) bool) []bool {
	var out []bool
	for _, e := range x.source.Events {
		out = append(out, holds(e))
	}
	return out
}

// ident is the relation of each event of a set with itself.
func (x *execution) ident(set []bool) *rel.Rel { return rel.Ident(len(x.source.Events), set) }

func isAccess(e api.Event) bool { return e.Kind != api.Fence }

// isBarrier leaves accesses out: they may be of the mode SC too.
func isBarrier(e api.Event) bool {
	return e.Kind == api.Fence && (e.Mode == api.SC || e.Mode == api.FenceSy)
}

func isRelaxedRead(e api.Event) bool { return e.Kind == api.Read && e.Mode == api.Rlx }
