package graph

import (
	"cmp"
	"slices"

	"sextant/api"
)

// book is a graph that is held against the rules, as one of the words or of the source. Each rule answers the first place where it is broken; it may rest on the rules ahead of it, as it is asked only if these are kept.
type book struct {
	api.Graph
	words bool
}

// kept is what a rule answers that is broken nowhere.
const kept = -1

// sizes is the rule 1.
func (b *book) sizes() int {
	n := len(b.Events)
	if b.Cells < 0 || b.Cells > api.MaxCells || n < b.Cells || n > api.MaxEvents {
		return 0
	}
	return kept
}

// initials is the rule 2.
func (b *book) initials() int {
	mode := api.Rlx
	if b.words {
		mode = api.Plain
	}
	for c := range b.Cells {
		if b.Events[c] != (api.Event{Thread: -1, Kind: api.Write, Loc: c, Mode: mode}) {
			return c
		}
	}
	return kept
}

// others is the rule 3.
func (b *book) others() int {
	for i := b.Cells; i < len(b.Events); i++ {
		if !b.isOther(b.Events[i]) {
			return i
		}
	}
	return kept
}

func (b *book) isOther(e api.Event) bool {
	if e.Thread < 0 || e.Thread >= api.MaxThreads || e.Kind < api.Read || e.Kind > api.Fence {
		return false
	}
	if e.Kind == api.Fence && (e.Loc != -1 || e.Val != 0) {
		return false
	}
	if e.Kind != api.Fence && (e.Loc < 0 || e.Loc >= b.Cells) {
		return false
	}
	return may(e.Kind, e.Mode, b.words)
}

// sources is the rule 4.
func (b *book) sources() int {
	reads := numbers(b.Events, func(e api.Event) bool { return e.Kind == api.Read })
	for i, p := range b.Rf {
		if i >= len(reads) || p.B != reads[i] || !b.is(p.A, api.Write) {
			return i
		}
		if w, r := b.Events[p.A], b.Events[p.B]; w.Loc != r.Loc || w.Val != r.Val {
			return i
		}
	}
	if len(b.Rf) < len(reads) {
		return len(b.Rf)
	}
	return kept
}

// orders is the rule 5. A cell always has a write, its initial one: so a cell that has no list is found among the cells that have writes.
func (b *book) orders() int {
	writes := map[int][]int{}
	for i, e := range b.Events {
		if e.Kind == api.Write {
			writes[e.Loc] = append(writes[e.Loc], i)
		}
	}
	first := b.Cells
	for c, l := range writes {
		if c >= len(b.Co) || !isOrder(b.Co[c], c, l) {
			first = min(first, c)
		}
	}
	if first == b.Cells && len(b.Co) <= b.Cells {
		return kept
	}
	return first
}

// isOrder tells whether a list has just a cell's writes, which rise, its initial one first.
func isOrder(list []int, cell int, writes []int) bool {
	return len(list) == len(writes) && list[0] == cell && slices.Equal(slices.Sorted(slices.Values(list)), writes)
}

// updates is the rule 6.
func (b *book) updates() int {
	for i, p := range b.Rmw {
		if i > 0 && p.A <= b.Rmw[i-1].A || !b.isUpdate(p) {
			return i
		}
	}
	return kept
}

func (b *book) isUpdate(p api.Pair) bool {
	if !b.is(p.A, api.Read) || !b.is(p.B, api.Write) || !isPo(b.Events, p.A, p.B) {
		return false
	}
	r := b.Events[p.A]
	gap := b.Events[p.A+1 : p.B]
	return r.Loc == b.Events[p.B].Loc && !slices.ContainsFunc(gap, func(e api.Event) bool { return e.Thread == r.Thread })
}

// addresses is the rule 7.
func (b *book) addresses() int { return b.dependencies(b.Addr, api.Read, api.Write) }

// values is the rule 8.
func (b *book) values() int { return b.dependencies(b.Data, api.Write) }

// controls is the rule 9.
func (b *book) controls() int { return b.dependencies(b.Ctrl, api.Read, api.Write, api.Fence) }

// dependencies is what the rules 7 to 9 have in common; kinds: what may depend on a read.
func (b *book) dependencies(l []api.Pair, kinds ...int) int {
	for i, p := range l {
		if !b.words || i > 0 && comparePairs(l[i-1], p) >= 0 {
			return i
		}
		if !b.is(p.A, api.Read) || !b.is(p.B, kinds...) || !isPo(b.Events, p.A, p.B) {
			return i
		}
	}
	return kept
}

// is tells whether a number is that of an event of one of these kinds.
func (b *book) is(i int, kinds ...int) bool {
	return 0 <= i && i < len(b.Events) && slices.Contains(kinds, b.Events[i].Kind)
}

func comparePairs(p, q api.Pair) int {
	return cmp.Or(cmp.Compare(p.A, q.A), cmp.Compare(p.B, q.B))
}
