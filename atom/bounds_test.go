package atom_test

import (
	"fmt"
	"testing"

	"sextant/atom"
)

// bound is how many steps a task that is stepped alone may need, n registers there being.
func bound(o op, n int) int {
	switch o.name {
	case "put", "take":
		return 12
	case "scan":
		return 3 * n
	case "update":
		return 3*n + 1
	}
	return 3
}

func TestP3_7AloneFromAnyMomentOn(t *testing.T) {
	for _, sc := range scenes() {
		most := map[string]int{}
		sc.schedules(sc.lead, func(picks []int, st *stage) {
			for i := range sc.threads {
				if st.ended(i) {
					continue
				}
				o, again := sc.threads[i][st.next[i]], sc.after(picks)
				may, steps := bound(o, len(st.state)), 0
				for had := again.next[i]; again.next[i] == had && steps <= may; steps++ {
					again.step(i)
				}
				if steps > may {
					t.Fatalf("P3.7: %s, picks %v, then thread %d alone: %s is not done within %d steps", sc.name, picks, i, o.name, may)
				}
				most[o.name] = max(most[o.name], steps)
			}
		})
		t.Log(sc.name, most)
	}
}

// together steps tasks until all are done, and tells how many steps that took.
func together(tasks []*atom.Task, pick func(open []*atom.Task) *atom.Task) int {
	steps := 0
	for {
		var open []*atom.Task
		for _, x := range tasks {
			if !x.Done() {
				open = append(open, x)
			}
		}
		if len(open) == 0 {
			return steps
		}
		pick(open).Step()
		steps++
	}
}

func TestP3_7ManyOfOneStackOrOfSlots(t *testing.T) {
	for k := 1; k <= 12; k++ {
		for seed := range uint64(100) {
			d := dice(seed)
			s, z := atom.NewStack(), slots(t, 1+d(3))
			var plates, lent []*atom.Task
			for i := range k {
				alone(s.Push(uint64(i)))
				if d(2) == 0 {
					plates, lent = append(plates, s.Push(uint64(i))), append(lent, z.Take())
				} else {
					plates, lent = append(plates, s.Pop()), append(lent, z.Give(d(2)))
				}
			}
			// Those that have done the fewest steps first: all of them load, and then but one swap is done.
			least := func(open []*atom.Task) *atom.Task {
				x := open[0]
				for _, y := range open {
					if y.Steps() < x.Steps() {
						x = y
					}
				}
				return x
			}
			chance := func(open []*atom.Task) *atom.Task { return open[d(len(open))] }
			for i, tasks := range [][]*atom.Task{plates, lent} {
				pick := chance
				if seed%2 == 0 {
					pick = least
				}
				if steps := together(tasks, pick); steps > 2*k*k {
					t.Fatalf("P3.7: %d tasks of %s: %d steps", k, []string{"a stack", "slots"}[i], steps)
				}
			}
		}
	}
}

// TestP3_7AScanThatIsKeptLongest: ahead of each collect but the first another register moves; when all have, the next that moves has moved twice.
func TestP3_7AScanThatIsKeptLongest(t *testing.T) {
	for n := 1; n <= 16; n++ {
		s := snap(t, n)
		x, late := s.Scan(), s.Scan()
		view := make([]uint64, n)
		var before []uint64
		for c := range n + 2 {
			if c > 0 {
				i := (c - 1) % n
				before = append([]uint64(nil), view...)
				u := update(t, s, i, uint64(c))
				alone(u)
				view[i] = uint64(c)
				if u.Steps() != 2*n+1 {
					t.Errorf("P3.7: an Update alone of %d registers: %d steps", n, u.Steps())
				}
			}
			for range n {
				x.Step()
			}
		}
		expect(t, fmt.Sprint("P3.7: a Scan of ", n, " that is kept longest"), x, true, n*(n+2), saw(before...))
		expectAlone(t, fmt.Sprint("P3.7: a Scan of ", n, " that comes late"), late, 2*n, saw(view...))
	}
}
