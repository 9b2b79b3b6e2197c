package dots

import "sextant/api"

// kinds are those of events by their names.
func kinds() map[string]int {
	return map[string]int{"R": api.Read, "W": api.Write, "F": api.Fence}
}

// modes are those of events by their names.
func modes() map[string]int {
	return map[string]int{
		"rlx": api.Rlx, "acq": api.Acq, "rel": api.Rel, "acq_rel": api.AcqRel, "sc": api.SC,
		"plain": api.Plain, "acquire": api.Acquire, "release": api.Release,
		"ld": api.FenceLd, "sy": api.FenceSy, "acquirepc": api.AcquirePC,
	}
}

// name is what a number is told by.
type name struct{ text string }

// turned are names by their numbers, of which each has one.
func turned(numbers map[string]int) map[int]name {
	out := map[int]name{}
	for text, n := range numbers {
		out[n] = name{text}
	}
	return out
}
