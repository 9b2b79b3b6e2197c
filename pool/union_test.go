package pool_test

import (
	"math"
	"runtime"
	"slices"
	"testing"

	"sextant/api"
	"sextant/pool"
)

const greatest = math.MaxUint64

func TestP4_4UnionExamples(t *testing.T) {
	if u, e := pool.Union([][]uint64{{5, 1}, {1, 9, 5}, {}}, 4); e != api.OK || !slices.Equal(u, []uint64{1, 5, 9}) {
		t.Errorf("P4.4: Union: %v, %d", u, e)
	}
}

func TestP4_4UnionRefuses(t *testing.T) {
	for _, workers := range []int{0, -1, api.MaxWorkers + 1, math.MinInt, math.MaxInt} {
		for _, lists := range [][][]uint64{nil, {{}}, {{1, 2}, {3}}} {
			if u, e := pool.Union(lists, workers); e != api.EARG || len(u) != 0 {
				t.Errorf("P4.4, R2: Union(%v, %d): %v, %d; want EARG alone", lists, workers, u, e)
			}
		}
	}
}

func TestP4_4UnionEdges(t *testing.T) {
	for _, x := range []struct {
		what  string
		lists [][]uint64
		want  []uint64
	}{
		{"no lists", nil, nil},
		{"no lists, not nil", [][]uint64{}, nil},
		{"an empty list", [][]uint64{{}}, nil},
		{"empty lists", [][]uint64{{}, nil, {}}, nil},
		{"one list", [][]uint64{{3, 1, 2}}, []uint64{1, 2, 3}},
		{"twice in one list", [][]uint64{{3, 1, 3, 3, 1}}, []uint64{1, 3}},
		{"side by side and apart", [][]uint64{{2, 2, 1, 2}, {}}, []uint64{1, 2}},
		{"the same lists", [][]uint64{{1, 2}, {1, 2}, {2, 1}}, []uint64{1, 2}},
		{"in several lists", [][]uint64{{1, 2, 3}, {3, 4, 1}, {4, 5, 1}}, []uint64{1, 2, 3, 4, 5}},
		{"lists that end at unlike places", [][]uint64{{1}, {2, 3, 4}, {9, 0}}, []uint64{0, 1, 2, 3, 4, 9}},
		{"0 alone", [][]uint64{{0}, {0, 0}}, []uint64{0}},
		{"the greatest", [][]uint64{{greatest, 0}, {greatest, 1 << 63, 1<<63 - 1}, {greatest, greatest}}, []uint64{0, 1<<63 - 1, 1 << 63, greatest}},
	} {
		for workers := 1; workers <= api.MaxWorkers; workers++ {
			if u, e := pool.Union(x.lists, workers); e != api.OK || !slices.Equal(u, x.want) {
				t.Errorf("P4.4, P4.5: %s: Union(%v, %d): %v, %d; want %v", x.what, x.lists, workers, u, e, x.want)
			}
		}
	}
}

func TestP4_4UnionOfManyLists(t *testing.T) {
	roll := dice(11)
	for many := range 70 {
		seen := map[uint64]bool{}
		lists := make([][]uint64, many)
		for k := range lists {
			for range roll(12) {
				v := uint64(roll(90)) - 20 // some of them wrap around to the greatest ones
				seen[v] = true
				lists[k] = append(lists[k], v)
			}
		}
		var want []uint64
		for v := range seen {
			want = append(want, v)
		}
		slices.Sort(want)
		for workers := 1; workers <= api.MaxWorkers; workers++ {
			if u, e := pool.Union(lists, workers); e != api.OK || !slices.Equal(u, want) {
				t.Fatalf("P4.4, P4.5: Union(%v, %d): %v, %d; want %v", lists, workers, u, e, want)
			}
		}
	}
}

func TestR4UnionLeavesItsListsAlone(t *testing.T) {
	for _, many := range []int{1, 2, 3} {
		room := []uint64{9, 3, 3, 1, 8, 7}
		ordered := []uint64{1, 2, 3, 4}
		lists := [][]uint64{room[:4], ordered, {2, 2}}[:many]
		u, _ := pool.Union(lists, 3)
		want := slices.Clone(u)
		spare := u[:cap(u)]
		for k := range spare {
			spare[k] = 100
		}
		if !slices.Equal(room, []uint64{9, 3, 3, 1, 8, 7}) || !slices.Equal(ordered, []uint64{1, 2, 3, 4}) {
			t.Errorf("R4: Union of %d lists has changed what was handed in: %v, %v", many, room, ordered)
		}
		if again, _ := pool.Union(lists, 3); !slices.Equal(again, want) {
			t.Errorf("R5: a second call tells %v; want %v", again, want)
		}
	}
	ordered := []uint64{1, 2, 3}
	u, _ := pool.Union([][]uint64{ordered}, 1)
	ordered[0] = 50
	if !slices.Equal(u, []uint64{1, 2, 3}) {
		t.Errorf("R4: Union keeps a list that was handed in: %v", u)
	}
}

func TestR7UnionHasEndedWhenItAnswers(t *testing.T) {
	before := runtime.NumGoroutine()
	lists := slices.Repeat([][]uint64{{3, 1}, {2}}, 20)
	for range 50 {
		pool.Union(lists, api.MaxWorkers)
	}
	gone(t, "Union", before)
}
