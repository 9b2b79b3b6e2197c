package rc11

import (
	"sextant/api"
	"sextant/graph"
	"sextant/rel"
)

// model is a well-formed source graph with its relations. Those of the SC axiom are the dearest, and few graphs come as far as that axiom: so they stay nil until sequence is called.
type model struct {
	source api.Graph
	base   graph.Facts
	Facts
}

func newModel(g api.Graph) (*model, api.Errno) {
	if rule, _ := graph.Check(g, false); rule != 0 {
		return nil, api.EGRAPH
	}
	base, e := graph.Derive(g)
	if e != api.OK {
		return nil, e
	}
	m := &model{source: g, base: base}
	m.happenings()
	return m, api.OK
}

// happenings makes what happens before what, and the order that each cell sees.
func (m *model) happenings() {
	f := m.base
	writes, reads, fences := m.only(f.Writes), m.only(f.Reads), m.only(f.Fences)
	releases := chain(m.with(api.Rel, api.AcqRel, api.SC), rel.Union(writes, fences))
	acquires := chain(m.with(api.Acq, api.AcqRel, api.SC), rel.Union(reads, fences))
	m.Rs = chain(writes, rel.Opt(rel.Inter(f.Po, f.Same)), writes, rel.Star(chain(f.Rf, f.Rmw)))
	m.Sw = chain(releases, rel.Opt(chain(fences, f.Po)), m.Rs, f.Rf, reads, rel.Opt(chain(f.Po, fences)), acquires)
	m.Hb = rel.Plus(rel.Union(f.Po, m.Sw))
	m.Eco = rel.Plus(rel.Union(f.Rf, f.Co, f.Fr))
}

// sequence makes what the SC events must be in one order by.
func (m *model) sequence() {
	f := m.base
	accesses := chain(m.with(api.SC), rel.Union(m.only(f.Reads), m.only(f.Writes)))
	fences := chain(m.with(api.SC), m.only(f.Fences))
	apart := rel.Minus(f.Po, f.Same)
	perhaps := rel.Opt(m.Hb)
	m.Scb = rel.Union(f.Po, chain(apart, m.Hb, apart), rel.Inter(m.Hb, f.Same), f.Co, f.Fr)
	m.PscBase = chain(rel.Union(accesses, chain(fences, perhaps)), m.Scb, rel.Union(accesses, chain(perhaps, fences)))
	m.PscF = chain(fences, rel.Union(m.Hb, chain(m.Hb, m.Eco, m.Hb)), fences)
}

// only is the relation of each event of a set with itself.
func (m *model) only(set []bool) *rel.Rel { return rel.Ident(len(m.source.Events), set) }

// with is that of the events of these modes.
func (m *model) with(modes ...int) *rel.Rel { return m.only(graph.With(m.source, modes...)) }

// chain makes one step of each relation, the one behind the other.
func chain(first *rel.Rel, others ...*rel.Rel) *rel.Rel {
	out := first
	for _, r := range others {
		out = rel.Comp(out, r)
	}
	return out
}
