package rel

// Irreflexive tells whether no (p, p) is in it.
func Irreflexive(a *Rel) bool { return loops(a).empty() }

// Acyclic tells whether the closure is irreflexive.
func Acyclic(a *Rel) bool { return Irreflexive(Plus(a)) }

// Cycle tells a cycle: the least; none, if there is none.
func Cycle(a *Rel) []int {
	for start := range loops(Plus(a)).points() {
		return cycleFrom(a, start)
	}
	return nil
}

func loops(a *Rel) row {
	var out row
	for p, w := range a.rows {
		out = out.with(p, w.has(p))
	}
	return out
}

// cycleFrom goes in from the outermost layer around start: a step that did not lead one layer in would make the cycle longer than it must be.
func cycleFrom(a *Rel, start int) []int {
	out := []int{start}
	near := layers(a, start)
	for i := len(near) - 1; i > 0; i-- {
		for q := range meet(a.rows[out[len(out)-1]], near[i]).points() {
			out = append(out, q)
			break
		}
	}
	return out
}

// layers has at its place k the points from which start is k steps away. It ends with the first one into which start leads, as the shortest cycles go through no further one.
func layers(a *Rel, start int) []row {
	back := Inverse(a)
	var seen row
	var out []row
	for near := seen.with(start, true); !near.empty(); near = without(back.step(near), seen) {
		out = append(out, near)
		if !meet(a.rows[start], near).empty() {
			break
		}
		seen = join(seen, near)
	}
	return out
}
