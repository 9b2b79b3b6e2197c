package atom_test

import (
	"fmt"
	"testing"

	"sextant/api"
	"sextant/atom"
)

// dice gives numbers from 0 to n - 1 that look like chance and are the same in each run.
func dice(seed uint64) func(n int) int {
	return func(n int) int {
		seed += 0x9e3779b97f4a7c15
		z := (seed ^ seed>>30) * 0xbf58476d1ce4e5b9
		z = (z ^ z>>27) * 0x94d049bb133111eb
		return int((z ^ z>>31) % uint64(n))
	}
}

// alone steps a task till it is done, and tells how many steps that took; never more than 1000.
func alone(x *atom.Task) int {
	n := 0
	for ; n < 1000 && !x.Done(); n++ {
		x.Step()
	}
	return n
}

// answer is what a task tells; the view as a text, so that two can be compared.
type answer struct {
	n    uint64
	ok   bool
	view string
}

func told(n uint64, ok bool, view []uint64) answer {
	if len(view) == 0 {
		return answer{n, ok, ""}
	}
	return answer{n, ok, fmt.Sprint(view)}
}

func of(x *atom.Task) answer {
	n, ok := x.Result()
	return told(n, ok, x.View())
}

// expect holds a task against what it should tell, and how many steps it should have done.
func expect(t *testing.T, what string, x *atom.Task, done bool, steps int, want answer) {
	t.Helper()
	if x.Done() != done || x.Steps() != steps || of(x) != want {
		t.Errorf("%s: done %v, %d steps, %v; want %v, %d, %v", what, x.Done(), x.Steps(), of(x), done, steps, want)
	}
}

// expectAlone does a task whole first.
func expectAlone(t *testing.T, what string, x *atom.Task, steps int, want answer) {
	t.Helper()
	alone(x)
	expect(t, what, x, true, steps, want)
}

func yes(n uint64) answer { return answer{n: n, ok: true} }

func no() answer { return answer{} }

func saw(view ...uint64) answer { return told(0, true, view) }

func slots(t *testing.T, room int) *atom.Slots {
	t.Helper()
	s, e := atom.NewSlots(room)
	if e != api.OK || s == nil {
		t.Fatalf("P3.5: NewSlots(%d): %v, %d", room, s, e)
	}
	return s
}

func snap(t *testing.T, n int) *atom.Snap {
	t.Helper()
	s, e := atom.NewSnap(n)
	if e != api.OK || s == nil {
		t.Fatalf("P3.5: NewSnap(%d): %v, %d", n, s, e)
	}
	return s
}

func update(t *testing.T, s *atom.Snap, i int, v uint64) *atom.Task {
	t.Helper()
	u, e := s.Update(i, v)
	if e != api.OK || u == nil {
		t.Fatalf("P3.5: Update(%d, %d): %v, %d", i, v, u, e)
	}
	return u
}
