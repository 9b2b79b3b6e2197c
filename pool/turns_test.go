package pool_test

import (
	"math"
	"math/big"
	"reflect"
	"slices"
	"testing"

	"sextant/api"
	"sextant/pool"
)

// sameLists holds two lists of lists against each other, where nil and an empty list are one.
func sameLists(a, b [][]int) bool { return slices.EqualFunc(a, b, slices.Equal[[]int]) }

func TestP4_3TurnsExamples(t *testing.T) {
	picks := []int{0, 1, 1, -1, 0, 0, 0}
	if l, e := pool.Turns(5, 2, picks); e != api.OK || !sameLists(l, [][]int{{0, 4}, {1, 2, 3}}) {
		t.Errorf("P4.3: Turns(5, 2, %v): %v, %d", picks, l, e)
	}
}

func TestP4_3TurnsRefuses(t *testing.T) {
	for _, x := range wrong {
		for _, picks := range [][]int{nil, {0, 1}} {
			if l, e := pool.Turns(x[0], x[1], picks); e != api.EARG || len(l) != 0 {
				t.Errorf("P4.3, R2: Turns(%d, %d, %v): %v, %d; want EARG alone", x[0], x[1], picks, l, e)
			}
		}
	}
}

func TestP4_3TurnsEdges(t *testing.T) {
	for _, x := range []struct {
		what       string
		n, workers int
		picks      []int
		want       [][]int
	}{
		{"no picks", 5, 2, nil, [][]int{{}, {}}},
		{"no numbers", 0, 3, []int{0, 1, 2, 3}, [][]int{{}, {}, {}}},
		{"neither", 0, 1, nil, [][]int{{}}},
		{"too few picks", 5, 2, []int{1}, [][]int{{}, {0}}},
		{"just enough picks", 2, 2, []int{1, 0}, [][]int{{1}, {0}}},
		{"one pick more", 2, 2, []int{1, 0, 0}, [][]int{{1}, {0}}},
		{"many picks more", 1, 2, []int{1, 0, 0, 1, 1, 0, 0}, [][]int{{}, {0}}},
		{"picks below 0", 6, 3, []int{-1, -2, -3, -4, -5, -6}, [][]int{{2, 5}, {1, 4}, {0, 3}}},
		{"picks past the workers", 4, 3, []int{3, 4, 5, 300}, [][]int{{0, 3}, {1}, {2}}},
		{"one worker", 3, 1, []int{-7, 9, 0}, [][]int{{0, 1, 2}}},
		{"the ends", 4, 16, []int{math.MinInt, math.MaxInt, math.MinInt + 1, math.MaxInt - 1}, [][]int{0: {0}, 1: {2}, 14: {3}, 15: {1}}},
		{"more numbers than there is room for", math.MaxInt, 2, []int{1, 0}, [][]int{{1}, {0}}},
	} {
		if l, e := pool.Turns(x.n, x.workers, x.picks); e != api.OK || !sameLists(l, x.want) {
			t.Errorf("P4.3: %s: Turns(%d, %d, %v): %v, %d; want %v", x.what, x.n, x.workers, x.picks, l, e, x.want)
		}
	}
}

// turns deals in the plainest way: modulo is asked of numbers without a bound.
func turns(n, workers int, picks []int) [][]int {
	got := make([][]int, workers)
	for k, p := range picks {
		if k < n {
			w := new(big.Int).Mod(big.NewInt(int64(p)), big.NewInt(int64(workers))).Int64()
			got[w] = append(got[w], k)
		}
	}
	return got
}

func TestP4_3TurnsOfManyPicks(t *testing.T) {
	roll := dice(3)
	for range 3000 {
		n, workers := roll(30), 1+roll(api.MaxWorkers)
		picks := make([]int, roll(40))
		for k := range picks {
			picks[k] = roll(100) - 50
			if roll(10) == 0 {
				picks[k] = math.MinInt + roll(20)
			}
		}
		l, e := pool.Turns(n, workers, picks)
		if want := turns(n, workers, picks); e != api.OK || !sameLists(l, want) {
			t.Fatalf("P4.3: Turns(%d, %d, %v): %v, %d; want %v", n, workers, picks, l, e, want)
		}
		if dealt := slices.Sorted(slices.Values(slices.Concat(l...))); len(dealt) != min(n, len(picks)) || len(slices.Compact(dealt)) != len(dealt) {
			t.Fatalf("P4.5: Turns(%d, %d, %v) deals %v", n, workers, picks, dealt)
		}
		for _, own := range l {
			if !slices.IsSorted(own) {
				t.Fatalf("P4.5: Turns(%d, %d, %v): %v does not rise", n, workers, picks, own)
			}
		}
	}
}

func TestR4TurnsListsAreApart(t *testing.T) {
	room := []int{0, 1, 0, 2, 1, 0, 77, 78}
	picks := room[:6]
	l, _ := pool.Turns(100, 3, picks)
	if !slices.Equal(room, []int{0, 1, 0, 2, 1, 0, 77, 78}) {
		t.Errorf("R4: Turns has changed what was handed in: %v", room)
	}
	want := [][]int{{0, 2, 5}, {1, 4}, {3}}
	for w := range l {
		kept := slices.Clone(l)
		for k := range kept {
			kept[k] = slices.Clone(l[k])
		}
		spare := l[w][:cap(l[w])]
		for k := range spare {
			spare[k] = -9
		}
		for k := range l {
			if k != w && !reflect.DeepEqual(l[k], kept[k]) {
				t.Errorf("R4: the lists of workers %d and %d share memory", w, k)
			}
		}
	}
	for k := range picks {
		picks[k] = 5
	}
	if again, _ := pool.Turns(100, 3, []int{0, 1, 0, 2, 1, 0}); !sameLists(again, want) {
		t.Errorf("R5: a second call tells %v", again)
	}
}
