package cpu_test

import (
	"fmt"
	"strings"
	"testing"

	"sextant/api"
	"sextant/cpu"
)

// Every operation that reads or writes, or is a fence, a print or a halt: what it wants, what it leaves in the registers, and its events.
func TestP16_2EachWant(t *testing.T) {
	for _, c := range []struct {
		text   string
		wants  []api.Want
		values []uint64
		events []api.Event
		x      [5]uint64 // behind it; x1 to x4 were the second cell's address, 22, 33, 44
		rmw    bool
	}{
		{"ldr x3, [x1]", []api.Want{wantLoad(1, api.Plain)}, []uint64{7}, []api.Event{read(1, 7, api.Plain)}, [5]uint64{2: 22, 3: 7, 4: 44}, false},
		{"ldr x3, [x1, #16]", []api.Want{wantLoad(3, api.Plain)}, []uint64{7}, []api.Event{read(3, 7, api.Plain)}, [5]uint64{2: 22, 3: 7, 4: 44}, false},
		{"ldar x3, [x1]", []api.Want{wantLoad(1, api.Acquire)}, []uint64{7}, []api.Event{read(1, 7, api.Acquire)}, [5]uint64{2: 22, 3: 7, 4: 44}, false},
		{"ldapr x3, [x1]", []api.Want{wantLoad(1, api.AcquirePC)}, []uint64{7}, []api.Event{read(1, 7, api.AcquirePC)}, [5]uint64{2: 22, 3: 7, 4: 44}, false},
		{"ldxr x3, [x1]", []api.Want{ex(wantLoad(1, api.Plain))}, []uint64{7}, []api.Event{read(1, 7, api.Plain)}, [5]uint64{2: 22, 3: 7, 4: 44}, false},
		{"ldaxr x3, [x1]", []api.Want{ex(wantLoad(1, api.Acquire))}, []uint64{7}, []api.Event{read(1, 7, api.Acquire)}, [5]uint64{2: 22, 3: 7, 4: 44}, false},
		{"str x3, [x1]", []api.Want{wantStore(1, 33, api.Plain)}, []uint64{7}, []api.Event{write(1, 33, api.Plain)}, [5]uint64{2: 22, 3: 33, 4: 44}, false},
		{"str x3, [x1, #16]", []api.Want{wantStore(3, 33, api.Plain)}, []uint64{7}, []api.Event{write(3, 33, api.Plain)}, [5]uint64{2: 22, 3: 33, 4: 44}, false},
		{"stlr x3, [x1]", []api.Want{wantStore(1, 33, api.Release)}, []uint64{7}, []api.Event{write(1, 33, api.Release)}, [5]uint64{2: 22, 3: 33, 4: 44}, false},
		{"ldxr x2, [x1]\nstxr w4, x3, [x1]", []api.Want{ex(wantLoad(1, api.Plain)), ex(wantStore(1, 33, api.Plain))}, []uint64{7, 1}, []api.Event{read(1, 7, api.Plain), write(1, 33, api.Plain)}, [5]uint64{2: 7, 3: 33, 4: 0}, true},
		{"ldxr x2, [x1]\nstlxr w4, x3, [x1]", []api.Want{ex(wantLoad(1, api.Plain)), ex(wantStore(1, 33, api.Release))}, []uint64{7, 1}, []api.Event{read(1, 7, api.Plain), write(1, 33, api.Release)}, [5]uint64{2: 7, 3: 33, 4: 0}, true},
		{"ldaxr x2, [x1]\nstxr w4, x3, [x1]", []api.Want{ex(wantLoad(1, api.Acquire)), ex(wantStore(1, 33, api.Plain))}, []uint64{7, 0}, []api.Event{read(1, 7, api.Acquire)}, [5]uint64{2: 7, 3: 33, 4: 1}, false},
		{"ldaxr x2, [x1]\nstlxr w4, x3, [x1]", []api.Want{ex(wantLoad(1, api.Acquire)), ex(wantStore(1, 33, api.Release))}, []uint64{7, 0}, []api.Event{read(1, 7, api.Acquire)}, [5]uint64{2: 7, 3: 33, 4: 1}, false},
		{"dmb ld", []api.Want{wantFence(api.FenceLd)}, []uint64{7}, []api.Event{barrier(api.FenceLd)}, [5]uint64{2: 22, 3: 33, 4: 44}, false},
		{"dmb sy", []api.Want{wantFence(api.FenceSy)}, []uint64{7}, []api.Event{barrier(api.FenceSy)}, [5]uint64{2: 22, 3: 33, 4: 44}, false},
		{"swp x3, x4, [x1]", []api.Want{one(wantLoad(1, api.Plain)), one(wantStore(1, 33, api.Plain))}, []uint64{7, 8}, []api.Event{read(1, 7, api.Plain), write(1, 33, api.Plain)}, [5]uint64{2: 22, 3: 33, 4: 7}, true},
		{"swpa x3, x4, [x1]", []api.Want{one(wantLoad(1, api.Acquire)), one(wantStore(1, 33, api.Plain))}, []uint64{7, 8}, []api.Event{read(1, 7, api.Acquire), write(1, 33, api.Plain)}, [5]uint64{2: 22, 3: 33, 4: 7}, true},
		{"swpl x3, x4, [x1]", []api.Want{one(wantLoad(1, api.Plain)), one(wantStore(1, 33, api.Release))}, []uint64{7, 8}, []api.Event{read(1, 7, api.Plain), write(1, 33, api.Release)}, [5]uint64{2: 22, 3: 33, 4: 7}, true},
		{"swpal x3, x4, [x1]", []api.Want{one(wantLoad(1, api.Acquire)), one(wantStore(1, 33, api.Release))}, []uint64{7, 8}, []api.Event{read(1, 7, api.Acquire), write(1, 33, api.Release)}, [5]uint64{2: 22, 3: 33, 4: 7}, true},
		{"ldadd x3, x4, [x1]", []api.Want{one(wantLoad(1, api.Plain)), one(wantStore(1, 40, api.Plain))}, []uint64{7, 8}, []api.Event{read(1, 7, api.Plain), write(1, 40, api.Plain)}, [5]uint64{2: 22, 3: 33, 4: 7}, true},
		{"ldadda x3, x4, [x1]", []api.Want{one(wantLoad(1, api.Acquire)), one(wantStore(1, 40, api.Plain))}, []uint64{7, 8}, []api.Event{read(1, 7, api.Acquire), write(1, 40, api.Plain)}, [5]uint64{2: 22, 3: 33, 4: 7}, true},
		{"ldaddl x3, x4, [x1]", []api.Want{one(wantLoad(1, api.Plain)), one(wantStore(1, 40, api.Release))}, []uint64{7, 8}, []api.Event{read(1, 7, api.Plain), write(1, 40, api.Release)}, [5]uint64{2: 22, 3: 33, 4: 7}, true},
		{"ldaddal x3, x4, [x1]", []api.Want{one(wantLoad(1, api.Acquire)), one(wantStore(1, 31, api.Release))}, []uint64{top - 1, 8}, []api.Event{read(1, top-1, api.Acquire), write(1, 31, api.Release)}, [5]uint64{2: 22, 3: 33, 4: top - 1}, true},
		{"cas x3, x4, [x1]", []api.Want{one(wantLoad(1, api.Plain)), one(wantStore(1, 44, api.Plain))}, []uint64{33, 8}, []api.Event{read(1, 33, api.Plain), write(1, 44, api.Plain)}, [5]uint64{2: 22, 3: 33, 4: 44}, true},
		{"casa x3, x4, [x1]", []api.Want{one(wantLoad(1, api.Acquire)), one(wantStore(1, 44, api.Plain))}, []uint64{33, 8}, []api.Event{read(1, 33, api.Acquire), write(1, 44, api.Plain)}, [5]uint64{2: 22, 3: 33, 4: 44}, true},
		{"casl x3, x4, [x1]", []api.Want{one(wantLoad(1, api.Plain)), one(wantStore(1, 44, api.Release))}, []uint64{33, 8}, []api.Event{read(1, 33, api.Plain), write(1, 44, api.Release)}, [5]uint64{2: 22, 3: 33, 4: 44}, true},
		{"casal x3, x4, [x1]", []api.Want{one(wantLoad(1, api.Acquire)), one(wantStore(1, 44, api.Release))}, []uint64{33, 8}, []api.Event{read(1, 33, api.Acquire), write(1, 44, api.Release)}, [5]uint64{2: 22, 3: 33, 4: 44}, true},
		{"cas x3, x4, [x1]", []api.Want{one(wantLoad(1, api.Plain))}, []uint64{44}, []api.Event{read(1, 44, api.Plain)}, [5]uint64{2: 22, 3: 44, 4: 44}, false},
		{"casa x3, x4, [x1]", []api.Want{one(wantLoad(1, api.Acquire))}, []uint64{34}, []api.Event{read(1, 34, api.Acquire)}, [5]uint64{2: 22, 3: 34, 4: 44}, false},
		{"casl x3, x4, [x1]", []api.Want{one(wantLoad(1, api.Plain))}, []uint64{1<<63 + 33}, []api.Event{read(1, 1<<63+33, api.Plain)}, [5]uint64{2: 22, 3: 1<<63 + 33, 4: 44}, false},
		{"casal x3, x4, [x1]", []api.Want{one(wantLoad(1, api.Acquire))}, []uint64{0}, []api.Event{read(1, 0, api.Acquire)}, [5]uint64{2: 22, 3: 0, 4: 44}, false},
	} {
		m := machine(t, base+"add x1, x1, #8\n"+set(2, 22)+set(3, 33)+set(4, 44)+c.text+"\nhlt #0")
		used := 0
		for i, w := range c.wants {
			told(t, c.text, m, w)
			fed(t, c.text, m, c.values[i])
			if w.What == api.WantLoad {
				used++
			}
		}
		for n, v := range c.x {
			if n > 1 {
				holdReg(t, c.text, m, n, v)
			}
		}
		told(t, c.text, m, wantHalt)
		want := api.Run{Events: c.events, State: api.Halted, Used: used}
		if c.rmw {
			want.Rmw = pairs(0, 1)
		}
		holdRun(t, "P16.4: "+c.text, m.Run(), want)
	}
}

// Prints, of each register that there is.
func TestP16_2Prints(t *testing.T) {
	for n := range 31 {
		m := machine(t, fmt.Sprintf("%ssvc #%d\nsvc #%d\nhlt #0", set(n, top-uint64(n)), n, (n+1)%31))
		told(t, "print", m, wantPrint(top-uint64(n)))
		fed(t, "print", m, 99)
		told(t, "print", m, wantPrint(0))
		holdRun(t, "P16.4: print", m.Run(), api.Run{Outs: []uint64{top - uint64(n)}})
		fed(t, "print", m, 99)
		told(t, "print", m, wantHalt)
		holdRun(t, "P16.4: print", m.Run(), api.Run{Outs: []uint64{top - uint64(n), 0}, State: api.Halted})
	}
}

// each tells listings of every operation that reads or writes the cell of x1; x1 stays as it is.
func each() []string {
	out := strings.Split("ldr x3, [x1] ldar x3, [x1] ldapr x3, [x1] ldxr x3, [x1] ldaxr x3, [x1] str x3, [x1] stlr x3, [x1] stxr w4, x3, [x1] stlxr w4, x3, [x1]", "] ")
	for i := range len(out) - 1 {
		out[i] += "]"
	}
	for _, kind := range []string{"swp", "ldadd", "cas"} {
		for _, order := range []string{"", "a", "l", "al"} {
			out = append(out, kind+order+" x3, x4, [x1]")
		}
	}
	return out
}

// The cell of an address, of every operation that has one.
func TestP16_2Cells(t *testing.T) {
	const last = api.Base + 8*(api.MaxCells-1)
	for _, text := range each() {
		for _, c := range []struct {
			address uint64
			cell    int
		}{
			{api.Base, 0}, {api.Base + 8, 1}, {api.Base + 8*1000, 1000}, {last - 8, api.MaxCells - 2}, {last, api.MaxCells - 1},
			{last + 8, -1}, {last + 1, -1}, {last + 4, -1}, {last + 7, -1}, {api.Base + 1, -1}, {api.Base + 2, -1}, {api.Base + 4, -1}, {api.Base + 7, -1}, {api.Base + 9, -1},
			{api.Base - 1, -1}, {api.Base - 8, -1}, {0, -1}, {8, -1}, {api.Base / 2, -1}, {1 << 32, -1}, {1<<32 + api.Base, -1}, {1 << 63, -1}, {1<<63 + api.Base, -1}, {top, -1}, {top - 7, -1}, {top - 65535, -1},
		} {
			isStatus := strings.Contains(text, "stxr") || strings.Contains(text, "stlxr")
			m := machine(t, set(1, c.address)+text+"\nhlt #0")
			what := fmt.Sprintf("%s at %#x", text, c.address)
			switch w := m.Next(); {
			case c.cell < 0:
				told(t, what, m, wantFault)
				notFed(t, what, m, 0, 1, 2)
				holdReg(t, what, m, 4, 0)
				holdRun(t, "P16.4: "+what, m.Run(), api.Run{State: api.Faulty})
			case isStatus: // it has a cell, for which the monitor is not open
				told(t, what, m, wantHalt)
				holdReg(t, what, m, 4, 1)
			case w.Loc != c.cell || w.What != api.WantLoad && w.What != api.WantStore:
				t.Errorf("P16.2: %s wants %+v, not the cell %d", what, w, c.cell)
			}
			if !isStatus || c.cell < 0 {
				continue
			}
			m = machine(t, set(1, c.address)+"ldxr x2, [x1]\n"+text+"\nhlt #0")
			fed(t, what, m, 5)
			if w := m.Next(); w.What != api.WantStore || !w.Ex || w.Loc != c.cell {
				t.Errorf("P16.2: %s wants %+v, not the cell %d", what, w, c.cell)
			}
		}
	}
}

// The number beside an address's register, at its ends; what is taken is the sum, which may wrap around.
func TestP16_2Offsets(t *testing.T) {
	const far = 32760
	for _, text := range []string{"ldr x3, [x1, #%d]", "str x3, [x1, #%d]"} {
		for _, c := range []struct {
			address uint64
			more    int
			cell    int
		}{
			{api.Base, 0, 0}, {api.Base, 8, 1}, {api.Base, far, 4095}, {api.Base - 8, 8, 0}, {api.Base - 8, 0, -1}, {api.Base + 8, far, -1}, {api.Base + 8, far - 8, 4095}, {api.Base - far, far, 0}, {api.Base - far - 8, far, -1}, {api.Base + far, far, -1}, {api.Base + far, 0, 4095},
			{api.Base + 4, 8, -1}, {api.Base - 4, 8, -1}, {top - 7, 8, -1}, {top - 7, far, -1}, {0, far, -1},
		} {
			what := fmt.Sprintf(text, c.more)
			m := machine(t, set(1, c.address)+what+"\nhlt #0")
			if c.cell < 0 {
				told(t, what, m, wantFault)
			} else if w := m.Next(); w.Loc != c.cell || w.What == api.WantFault {
				t.Errorf("P16.2: %s at %#x wants %+v, not the cell %d", what, c.address, w, c.cell)
			}
		}
	}
}

// As many events as there may be, and one more, of whatever kind the last and the one behind are.
func TestP16_2Events(t *testing.T) {
	// filled is a listing with so many events, fed all that they want.
	filled := func(events int, behind string, values ...uint64) *cpu.Machine {
		m := machine(t, fmt.Sprintf("%smovz x20, #%d\nl: dmb sy\nsub x20, x20, #1\ncbnz x20, l\n%s\nhlt #0", base, events, behind))
		fed(t, behind, m, make([]uint64, events)...)
		fed(t, behind, m, values...)
		return m
	}
	const most = api.MaxEvents
	for _, text := range []string{"ldr x3, [x1]", "ldar x3, [x1]", "ldapr x3, [x1]", "ldxr x3, [x1]", "ldaxr x3, [x1]", "str x3, [x1]", "stlr x3, [x1]", "dmb ld", "dmb sy"} {
		m := filled(most-1, text, 5)
		told(t, "the last event: "+text, m, wantHalt)
		if r := m.Run(); len(r.Events) != most || r.State != api.Halted {
			t.Errorf("P16.4: the last event: %s: %d events, state %d", text, len(r.Events), r.State)
		}
		m = filled(most, text)
		told(t, "one too many: "+text, m, wantFuel)
		notFed(t, "one too many: "+text, m, 0, 1, 2, top)
		holdReg(t, text, m, 3, 0)
		if r := m.Run(); len(r.Events) != most || r.State != api.Spent || r.Loc != 0 {
			t.Errorf("P16.4: one too many: %s: %d events, state %d", text, len(r.Events), r.State)
		}
	}
	for _, text := range []string{"swp x3, x4, [x1]", "ldaddal x3, x4, [x1]", "casa x3, x4, [x1]"} {
		m := filled(most-2, text, 0, 0)
		told(t, "the last two: "+text, m, wantHalt)
		if r := m.Run(); len(r.Events) != most || len(r.Rmw) != 1 {
			t.Errorf("P16.4: the last two: %s: %d events, %v", text, len(r.Events), r.Rmw)
		}
		for _, events := range []int{most - 1, most} {
			m = filled(events, text)
			told(t, "no two: "+text, m, wantFuel)
			notFed(t, "no two: "+text, m, 0, 1, 2, top)
		}
		m = machine(t, base+"l: "+text+"\nb l")
		for range most {
			fed(t, text, m, 0)
		}
		told(t, "only: "+text, m, wantFuel)
	}
	m := filled(most-3, "cas x3, x4, [x1]\ncas x5, x6, [x1]\ndmb ld", 7) // one that finds another value makes one event, but needs room for two
	fed(t, "cas", m, 0)
	fed(t, "cas", m, 0)
	told(t, "cas", m, wantFuel)
	m = filled(most-2, "cas x3, x4, [x1]\ncas x5, x6, [x1]\ndmb ld", 7)
	told(t, "cas", m, wantFuel)
	for _, text := range []string{"stxr w4, x3, [x1]", "stlxr w4, x3, [x1]"} {
		m = filled(most-2, "ldxr x2, [x1]\n"+text+"\n"+text, 5, 1) // behind all events an exclusive store that is not open is the machine's own
		told(t, text, m, wantHalt)
		holdReg(t, text, m, 4, 1)
		m = filled(most-1, "ldxr x2, [x1]\n"+text, 5)
		told(t, "no room: "+text, m, wantFuel)
		notFed(t, "no room: "+text, m, 0, 1, 2)
		m = filled(most-2, "ldxr x2, [x1]\n"+text+"\nldxr x2, [x1]\n"+text, 5, 0, 6) // the first store is not done: there is no event
		told(t, "no room: "+text, m, wantFuel)
		if r := m.Run(); len(r.Events) != most || r.Used != 2 {
			t.Errorf("P16.4: %s: %d events, %d used", text, len(r.Events), r.Used)
		}
	}
	m = filled(most, "svc #20\nnop\nsvc #1") // what is no event may be done
	told(t, "print", m, wantPrint(0))
	fed(t, "print", m, 0)
	told(t, "print", m, wantPrint(api.Base))
	fed(t, "print", m, 0)
	told(t, "print", m, wantHalt)
}

// Of two that come together: an address without a cell is a fault whatever the events and the monitor; a place among no words, too.
func TestP16_2WhichFirst(t *testing.T) {
	full := base + "movz x20, #256\nl: dmb sy\nsub x20, x20, #1\ncbnz x20, l\n"
	for _, text := range each() {
		text = strings.ReplaceAll(text, "[x1]", "[x9]")
		m := machine(t, full+text+"\nhlt #0")
		fed(t, text, m, make([]uint64, api.MaxEvents)...)
		told(t, text+" without a cell, behind all events", m, wantFault)
		notFed(t, text, m, 0, 1)
		if r := m.Run(); r.State != api.Faulty || len(r.Events) != api.MaxEvents {
			t.Errorf("P16.4: %s: %d events, state %d", text, len(r.Events), r.State)
		}
		m = machine(t, counted(api.MaxFuel)+text+"\nhlt #0")
		told(t, text+" without a cell, behind all fuel", m, wantFault)
		m = machine(t, base+"ldxr x2, [x1]\n"+text+"\nhlt #0")
		fed(t, text, m, 5)
		told(t, text+" without a cell, with the monitor open", m, wantFault)
	}
	m := machine(t, full)
	fed(t, "the end", m, make([]uint64, api.MaxEvents)...)
	told(t, "the end behind all events", m, wantFault)
	m = machine(t, base+"ldxr x2, [x1]\n"+counted(api.MaxFuel)+"stxr w4, x3, [x1]\nhlt #0")
	fed(t, "a store that is wanted behind all fuel", m, 5)
	told(t, "a store that is wanted behind all fuel", m, ex(wantStore(0, 0, api.Plain)))
}
