package cpu_test

import (
	"fmt"
	"slices"
	"testing"

	"sextant/api"
)

// wanted are the wants of a listing, all of which are fed that value, up to where it may not be.
func wanted(t *testing.T, text string, v uint64) (out []api.Want, r api.Run) {
	t.Helper()
	m := machine(t, text+"\nhlt #0")
	for {
		w := m.Next()
		if m.Feed(v) != api.OK {
			return out, m.Run()
		}
		out = append(out, w)
	}
}

// The monitor, opened by an exclusive load, as each instruction leaves it.
func TestP16_2Monitor(t *testing.T) {
	stays := []string{
		"nop", "movz x5, #1", "movk x5, #1", "add x5, x5, x6", "sub x5, x5, x6", "and x5, x5, x6", "orr x5, x5, x6", "eor x5, x5, x6", "orn x5, x5, x6", "mul x5, x5, x6", "lsl x5, x5, x6", "lsr x5, x5, x6", "add x5, x5, #1", "sub x5, x5, #1", "lsl x5, x5, #1", "lsr x5, x5, #1",
		"cmp x5, x6", "cset x5, eq", "b .+1", "b.eq .+1", "b.ne .+1", "cbz x5, .+1", "cbnz x5, .+1", "svc #5", "ldxr x5, [x1]", "ldaxr x5, [x1]", "ldxr x5, [x8]\nldaxr x5, [x1]", "ldr x5, [x1]\nldxr x5, [x1]", "dmb sy\nldxr x5, [x1]", "movz x1, #1, lsl #16", "movz x1, #0\nmovz x1, #1, lsl #16",
	}
	closes := []string{
		"ldr x5, [x1]", "ldar x5, [x1]", "ldapr x5, [x1]", "ldr x5, [x8]", "ldar x5, [x8]", "ldapr x5, [x8]", "ldxr x5, [x8]", "ldaxr x5, [x8]", "ldxr x5, [x1]\nldxr x5, [x8]", "ldr xzr, [x1]",
		"str x5, [x1]", "stlr x5, [x1]", "str x5, [x8]", "stlr x5, [x8]", "dmb ld", "dmb sy",
		"swp x5, x6, [x8]", "swpa x5, x6, [x8]", "swpl x5, x6, [x8]", "swpal x5, x6, [x1]", "ldadd x5, x6, [x8]", "ldadda x5, x6, [x8]", "ldaddl x5, x6, [x8]", "ldaddal x5, x6, [x1]",
		"movz x5, #1\ncas x5, x6, [x8]", "cas x5, x6, [x8]", "casa x5, x6, [x8]", "casl x5, x6, [x8]", "casal x5, x6, [x1]",
		"stxr w5, x6, [x8]", "stlxr w5, x6, [x8]", "stxr w5, x6, [x1]", "stlxr w5, x6, [x1]",
	}
	for _, load := range []string{"ldxr", "ldaxr"} {
		for _, store := range []string{"stxr", "stlxr"} {
			ahead := base + "add x8, x1, #8\n" + load + " x2, [x1]\n"
			behind := "\n" + store + " w4, x3, [x1]"
			for _, text := range stays {
				wants, r := wanted(t, ahead+text+behind, 1)
				last := wants[len(wants)-1]
				if last.What != api.WantStore || !last.Ex || last.Loc != 0 || len(r.Rmw) != 1 || r.State != api.Halted {
					t.Errorf("P16.2: %s, %s, %s: wants %+v; %+v", load, text, store, wants, r)
				}
				if b := len(r.Events) - 1; !slices.Equal(r.Rmw, pairs(b-1, b)) {
					t.Errorf("P16.4: %s, %s, %s: Rmw %v", load, text, store, r.Rmw)
				}
			}
			for _, text := range closes {
				m := machine(t, ahead+text+behind+"\nhlt #0")
				for m.Feed(1) == api.OK {
				}
				without, _ := wanted(t, ahead+text, 1)
				with, r := wanted(t, ahead+text+behind, 1)
				if !slices.Equal(with, without) || m.Reg(4) != 1 || r.State != api.Halted {
					t.Errorf("P16.2: %s, %s, %s: wants %+v, x4 is %d; %+v", load, text, store, with, m.Reg(4), r)
				}
			}
		}
	}
}

// At the beginning it is closed, at the cell 0 as well; behind an exclusive store too, whether it was done or not, or was none.
func TestP16_2MonitorOnce(t *testing.T) {
	for _, text := range []string{"stxr w4, x3, [x1]", "stlxr w4, x3, [x1]", "nop\nstxr w4, x3, [x1]\nmovz x4, #0\nstxr w4, x3, [x1]"} {
		halts(t, base+text, 4, 1)
		halts(t, base+"movz x4, #77, lsl #48\n"+text, 4, 1)
	}
	for _, v := range []uint64{0, 1} {
		m := machine(t, base+"ldxr x2, [x1]\nstxr w4, x3, [x1]\nstlxr w5, x3, [x1]\nstxr w6, x3, [x1]\nldaxr x2, [x1]\nstlxr w7, x3, [x1]\nstxr w9, x3, [x1]\nhlt #0")
		fed(t, "a pair", m, 5, v)
		holdReg(t, "a pair", m, 5, 0) // the next ones are not done yet
		told(t, "a second pair", m, ex(wantLoad(0, api.Acquire)))
		for n, want := range map[int]uint64{4: 1 - v, 5: 1, 6: 1, 7: 0, 9: 0} {
			holdReg(t, "a second pair", m, n, want)
		}
		fed(t, "a second pair", m, 6, 1-v)
		told(t, "behind it", m, wantHalt)
		for n, want := range map[int]uint64{4: 1 - v, 5: 1, 6: 1, 7: v, 9: 1} {
			holdReg(t, "behind it", m, n, want)
		}
		want := api.Run{Events: []api.Event{read(0, 5, api.Plain), read(0, 6, api.Acquire), write(0, 0, api.Release)}, Rmw: pairs(1, 2), State: api.Halted, Used: 2}
		if v == 1 {
			want.Events = []api.Event{read(0, 5, api.Plain), write(0, 0, api.Plain), read(0, 6, api.Acquire)}
			want.Rmw = pairs(0, 1)
		}
		holdRun(t, "P16.4: two pairs", m.Run(), want)
	}
}

// An exclusive store for another cell is not done, and closes the monitor; one of the same cell by another register is.
func TestP16_2MonitorOfACell(t *testing.T) {
	for _, c := range []struct {
		opened, stored uint64
		done           bool
	}{
		{api.Base, api.Base, true}, {api.Base + 8, api.Base + 8, true}, {api.Base + 32760, api.Base + 32760, true},
		{api.Base, api.Base + 8, false}, {api.Base + 8, api.Base, false}, {api.Base + 32760, api.Base, false}, {api.Base, api.Base + 32760, false}, {api.Base + 8, api.Base + 16, false},
	} {
		m := machine(t, set(5, c.opened)+set(6, c.stored)+"ldxr x2, [x5]\nstxr w4, x3, [x6]\nstxr w7, x3, [x5]\nhlt #0")
		fed(t, "an exclusive load", m, 9)
		if c.done {
			told(t, "the same cell", m, ex(wantStore(int(c.stored-api.Base)/8, 0, api.Plain)))
			fed(t, "the same cell", m, 1)
			told(t, "the same cell", m, wantHalt)
			holdReg(t, "the same cell", m, 4, 0)
		} else {
			told(t, "another cell", m, wantHalt)
			holdReg(t, "another cell", m, 4, 1)
		}
		holdReg(t, "used twice", m, 7, 1)
	}
}

// What the status register may be: any but the value's and the address's. It gets the outcome, and no taints.
func TestP16_2Status(t *testing.T) {
	for n := range 31 {
		if n == 1 || n == 3 {
			continue
		}
		status := fmt.Sprintf("stxr w%d, x3, [x1]\n", n)
		m := machine(t, base+"ldxr x2, [x1]\n"+status+"hlt #0")
		fed(t, status, m, 5, 0)
		holdReg(t, status, m, n, 1)
		m = machine(t, base+"ldxr x2, [x1]\n"+status+fmt.Sprintf("cbnz x%d, .+1\nstr x%d, [x1]\nhlt #0", n, n))
		fed(t, status, m, 5, 1)
		holdReg(t, status, m, n, 0)
		told(t, status, m, wantStore(0, 0, api.Plain))
		fed(t, status, m, 0)
		if r := m.Run(); len(r.Data) != 0 || len(r.Ctrl) != 0 {
			t.Errorf("P16.4: %s: a status has taints: %+v", status, r)
		}
	}
	for _, v := range []uint64{0, 1} { // the register that was loaded into, of which the store's value was made
		m := machine(t, base+"ldxr x2, [x1]\nadd x3, x2, #1\nstxr w2, x3, [x1]\nstr x2, [x1]\nstr x3, [x1]\nhlt #0")
		fed(t, "over the old value", m, 5, v)
		told(t, "over the old value", m, wantStore(0, 1-v, api.Plain))
		fed(t, "over the old value", m, 0, 0)
		want := api.Run{Events: []api.Event{read(0, 5, api.Plain), write(0, 1-v, api.Plain), write(0, 6, api.Plain)}, Data: pairs(0, 2), State: api.Halted, Used: 1}
		if v == 1 {
			want.Events = slices.Insert(want.Events, 1, write(0, 6, api.Plain))
			want.Rmw, want.Data = pairs(0, 1), pairs(0, 1, 0, 3)
		}
		told(t, "over the old value", m, wantHalt)
		holdRun(t, "P16.4: over the old value", m.Run(), want)
	}
	m := machine(t, base+"ldr x4, [x1]\nstxr w4, x3, [x1]\nstr x4, [x1]\nhlt #0") // of one that is the machine's own, too
	fed(t, "not open", m, 8, 0)
	told(t, "not open", m, wantHalt)
	holdRun(t, "P16.4: not open", m.Run(), api.Run{Events: []api.Event{read(0, 8, api.Plain), write(0, 1, api.Plain)}, State: api.Halted, Used: 1})
}
