package arm

import (
	"sextant/api"
	"sextant/rel"
)

// clause is one of those that a relation is the union of, bound to its graph.
type clause func() *rel.Rel

// facts are the relations, each by its clauses in the order in which the document has them.
func (m *model) facts() Facts {
	f := Facts{
		Obs: union(m.readElsewhere, m.overwrittenElsewhere, m.outdatedElsewhere),
		Dob: union(m.addressed, m.valued, m.branchedToWrite, m.behindAddressed, m.laterThanDependent, m.readBack),
		Aob: union(m.paired, m.pairReadBack),
		Bob: union(m.acrossFull, m.acrossLoads, m.releaseToAcquire, m.behindAcquire, m.aheadOfRelease, m.aheadOfOverwriting),
	}
	f.Ob = rel.Union(f.Obs, f.Dob, f.Aob, f.Bob)
	return f
}

func union(clauses ...clause) *rel.Rel {
	var all []*rel.Rel
	for _, c := range clauses {
		all = append(all, c())
	}
	return rel.Union(all...)
}

// What other threads observe: rfe, coe, fre.

func (m *model) readElsewhere() *rel.Rel { return m.rfe }

func (m *model) overwrittenElsewhere() *rel.Rel { return m.coe }

func (m *model) outdatedElsewhere() *rel.Rel { return m.fre }

// What hangs on a value that was read: addr, data, ctrl; [W], addr; po; [W], (ctrl or data); coi, (addr or data); rfi.

func (m *model) addressed() *rel.Rel { return m.base.Addr }

func (m *model) valued() *rel.Rel { return m.base.Data }

func (m *model) branchedToWrite() *rel.Rel { return chain(m.base.Ctrl, m.only(m.base.Writes)) }

func (m *model) behindAddressed() *rel.Rel {
	return chain(m.base.Addr, m.base.Po, m.only(m.base.Writes))
}

func (m *model) laterThanDependent() *rel.Rel {
	return chain(rel.Union(m.base.Ctrl, m.base.Data), m.coi)
}

func (m *model) readBack() *rel.Rel { return chain(rel.Union(m.base.Addr, m.base.Data), m.rfi) }

// What a pair orders: rmw, [the writes of rmw]; rfi; [A or Q].

func (m *model) paired() *rel.Rel { return m.base.Rmw }

func (m *model) pairReadBack() *rel.Rel {
	ends := rel.Image(m.base.Rmw, m.base.Reads)
	return chain(m.only(ends), m.rfi, m.with(api.Acquire, api.AcquirePC))
}

// What barriers order: po; [Sy]; po, [R]; po; [Ld]; po, [L]; po; [A], [A or Q]; po, po; [L], po; [L]; coi.

func (m *model) acrossFull() *rel.Rel {
	return chain(m.base.Po, m.with(api.FenceSy), m.base.Po)
}

func (m *model) acrossLoads() *rel.Rel {
	return chain(m.only(m.base.Reads), m.base.Po, m.with(api.FenceLd), m.base.Po)
}

func (m *model) releaseToAcquire() *rel.Rel {
	return chain(m.with(api.Release), m.base.Po, m.with(api.Acquire))
}

func (m *model) behindAcquire() *rel.Rel {
	return chain(m.with(api.Acquire, api.AcquirePC), m.base.Po)
}

func (m *model) aheadOfRelease() *rel.Rel { return chain(m.base.Po, m.with(api.Release)) }

func (m *model) aheadOfOverwriting() *rel.Rel { return chain(m.aheadOfRelease(), m.coi) }
