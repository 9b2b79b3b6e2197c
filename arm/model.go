package arm

import (
	"sextant/api"
	"sextant/graph"
	"sextant/rel"
)

// model is a well-formed graph of words with those of its relations that no mode has a part in.
type model struct {
	source        api.Graph
	base          graph.Facts
	rfi, coi      *rel.Rel // within one thread
	rfe, coe, fre *rel.Rel // between two
}

func newModel(g api.Graph) (*model, api.Errno) {
	if rule, _ := graph.Check(g, true); rule != 0 {
		return nil, api.EGRAPH
	}
	base, e := graph.Derive(g)
	if e != api.OK {
		return nil, e
	}
	m := &model{source: g, base: base}
	m.rfi, m.rfe = m.apart(base.Rf)
	m.coi, m.coe = m.apart(base.Co)
	_, m.fre = m.apart(base.Fr)
	return m, api.OK
}

// apart tells what of a relation is within one thread, and what is between two.
func (m *model) apart(r *rel.Rel) (inner, outer *rel.Rel) {
	return rel.Minus(r, m.base.Ext), rel.Inter(r, m.base.Ext)
}

// only is the relation of each event of a set with itself.
func (m *model) only(set []bool) *rel.Rel { return rel.Ident(len(m.source.Events), set) }

// with is that of the events of these modes.
func (m *model) with(modes ...int) *rel.Rel { return m.only(graph.With(m.source, modes...)) }

// chain makes one step of each relation, the one behind the other.
func chain(first *rel.Rel, others ...*rel.Rel) *rel.Rel {
	out := first
	for _, r := range others {
		out = rel.Comp(out, r)
	}
	return out
}
