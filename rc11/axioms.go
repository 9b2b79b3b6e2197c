package rc11

import "sextant/rel"

// axiom is one of the model's: broken tells the events by which a graph breaks it, none if it does not.
type axiom struct {
	number int
	broken func(m *model) []int
}

// axioms are all of them, in the order in which they are asked.
func axioms() []axiom {
	return []axiom{
		{number: Coherence, broken: incoherent},
		{number: Atomicity, broken: torn},
		{number: Sequential, broken: outOfSequence},
		{number: ThinAir, broken: outOfThinAir},
	}
}

// incoherent looks for the least event that, by what happens before, comes ahead of itself or of what its cell has ahead of it.
func incoherent(m *model) []int {
	for a := range m.Hb.Len() {
		if m.Hb.Has(a, a) {
			return []int{a}
		}
		for b := range m.Hb.Len() {
			if m.Hb.Has(a, b) && m.Eco.Has(b, a) {
				return []int{a, b}
			}
		}
	}
	return nil
}

// torn looks for the first pair that another write comes between.
func torn(m *model) []int {
	between := rel.Comp(m.base.Fr, m.base.Co)
	for _, p := range m.source.Rmw {
		if between.Has(p.A, p.B) {
			return []int{p.A, p.B}
		}
	}
	return nil
}

// outOfSequence looks for SC events that no one order has room for.
func outOfSequence(m *model) []int {
	m.sequence()
	return rel.Cycle(rel.Union(m.PscBase, m.PscF))
}

// outOfThinAir looks for reads that are their own cause.
func outOfThinAir(m *model) []int {
	return rel.Cycle(rel.Union(m.base.Po, m.base.Rf))
}
