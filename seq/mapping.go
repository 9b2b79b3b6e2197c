package seq

import (
	"sextant/api"
	"sextant/rel"
)

// modes are the words' modes for the source's, by the kind of the event.
var modes = [...][api.SC + 1]int{
	api.Read:  {api.Rlx: api.Plain, api.Acq: api.Acquire, api.SC: api.Acquire},
	api.Write: {api.Rlx: api.Plain, api.Rel: api.Release, api.SC: api.Release},
	api.Fence: {api.Acq: api.FenceLd, api.Rel: api.FenceSy, api.AcqRel: api.FenceSy, api.SC: api.FenceSy},
}

// mapped is the words' graph of a source graph. Its Ctrl is what the branch behind each relaxed read makes: all that follows hangs on it.
func (x *execution) mapped(lse bool) api.Graph {
	g := x.source
	paired := x.paired()
	out := api.Graph{
		Cells: g.Cells,
		Rf:    append([]api.Pair(nil), g.Rf...),
		Rmw:   append([]api.Pair(nil), g.Rmw...),
		Ctrl:  rel.Comp(x.ident(x.those(isRelaxedRead)), x.Po).Pairs(),
	}
	for i, e := range g.Events {
		e.Mode = wordsMode(e, lse && !paired[i])
		out.Events = append(out.Events, e)
	}
	for _, l := range g.Co {
		out.Co = append(out.Co, append([]int(nil), l...))
	}
	return out
}

// wordsMode is the mode of a source event in the words; weak: a read of Acq may be an LDAPR.
func wordsMode(e api.Event, weak bool) int {
	if weak && e.Kind == api.Read && e.Mode == api.Acq {
		return api.AcquirePC
	}
	return modes[e.Kind][e.Mode]
}
