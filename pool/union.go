package pool

import (
	"slices"

	"sextant/api"
)

// Union tells the numbers of all lists, each once, rising.
func Union(lists [][]uint64, workers int) ([]uint64, api.Errno) {
	rows, e := Each(len(lists), workers, func(i int) []uint64 { return rising(lists[i]) })
	if e != api.OK {
		return nil, e
	}
	for len(rows) > 1 {
		rows = halve(rows, workers)
	}
	if len(rows) == 0 {
		return nil, api.OK
	}
	return rows[0], api.OK
}

// rising is a list's numbers, each once, rising, in memory of its own.
func rising(list []uint64) []uint64 {
	row := slices.Clone(list)
	slices.Sort(row)
	return slices.Compact(row)
}

// halve merges rows two by two; the last of an odd number stays as it is.
func halve(rows [][]uint64, workers int) [][]uint64 {
	merged, _ := Each((len(rows)+1)/2, workers, func(i int) []uint64 {
		if 2*i+1 == len(rows) {
			return rows[2*i]
		}
		return merge(rows[2*i], rows[2*i+1])
	})
	return merged
}

// merge makes one rising row of two; what stands in both stands in it once.
func merge(a, b []uint64) []uint64 {
	row := make([]uint64, 0, len(a)+len(b))
	for len(a) > 0 && len(b) > 0 {
		low := min(a[0], b[0])
		row = append(row, low)
		a, b = without(a, low), without(b, low)
	}
	return append(append(row, a...), b...)
}

// without is a rising row without a number that may stand first in it.
func without(row []uint64, low uint64) []uint64 {
	if row[0] == low {
		return row[1:]
	}
	return row
}
