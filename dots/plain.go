package dots

import (
	"slices"

	"sextant/api"
)

// maxPairs is how many a list of a plain graph has at most: as many as two bytes can count.
const maxPairs = 1<<16 - 1

func isPlain(g api.Graph) bool {
	if !isCount(g.Cells) || !isCount(len(g.Events)) || !isLists(len(g.Co)) {
		return false
	}
	for _, e := range g.Events {
		if !isThread(e.Thread) || !isKind(e.Kind) || !isLoc(e.Loc) || !isMode(e.Mode) {
			return false
		}
	}
	for _, l := range pairsOf(&g) {
		if !isPairs(len(*l)) {
			return false
		}
	}
	for _, l := range g.Co {
		if !isCount(len(l)) {
			return false
		}
	}
	return areNumbers(g, isNumber)
}

// areNumbers tells whether something holds of each number in a graph's pairs and in Co.
func areNumbers(g api.Graph, holds func(n int) bool) bool {
	for _, l := range pairsOf(&g) {
		for _, p := range *l {
			if !holds(p.A) || !holds(p.B) {
				return false
			}
		}
	}
	for _, l := range g.Co {
		if slices.ContainsFunc(l, func(n int) bool { return !holds(n) }) {
			return false
		}
	}
	return true
}

// pairsOf are a graph's lists of pairs, in the order of its bytes.
func pairsOf(g *api.Graph) [5]*[]api.Pair {
	return [...]*[]api.Pair{&g.Rf, &g.Rmw, &g.Addr, &g.Data, &g.Ctrl}
}

// isCount is asked of the cells, the events and the numbers of a list of Co.
func isCount(n int) bool { return 0 <= n && n <= api.MaxEvents }

func isPairs(n int) bool { return 0 <= n && n <= maxPairs }

func isLists(n int) bool { return 0 <= n && n <= api.MaxCells }

// isNumber is asked of what stands for an event.
func isNumber(n int) bool { return 0 <= n && n < api.MaxEvents }

func isThread(n int) bool { return -1 <= n && n < api.MaxThreads }

func isKind(n int) bool { return api.Read <= n && n <= api.Fence }

func isLoc(n int) bool { return -1 <= n && n < api.MaxCells }

func isMode(n int) bool {
	return api.Rlx <= n && n <= api.SC || api.Plain <= n && n <= api.AcquirePC
}
