package arm

import "sextant/rel"

// axiom is one of the model's: broken tells the events by which the graph breaks it, none if it does not.
type axiom struct {
	number int
	broken func() []int
}

// axioms are all of them, in the order in which they are asked; the relations of External are the dearest, so that they are made only when it is asked.
func (m *model) axioms() []axiom {
	return []axiom{
		{number: Internal, broken: m.incoherent},
		{number: External, broken: m.unordered},
		{number: Atomicity, broken: m.torn},
	}
}

// incoherent looks for events of one cell that its threads and its orders put in a ring.
func (m *model) incoherent() []int {
	f := m.base
	return rel.Cycle(rel.Union(rel.Inter(f.Po, f.Same), f.Rf, f.Co, f.Fr))
}

// unordered looks for events that no order of all threads has room for.
func (m *model) unordered() []int { return rel.Cycle(m.facts().Ob) }

// torn looks for the first pair that another thread's write comes between.
func (m *model) torn() []int {
	between := chain(m.fre, m.coe)
	for _, p := range m.source.Rmw {
		if between.Has(p.A, p.B) {
			return []int{p.A, p.B}
		}
	}
	return nil
}
