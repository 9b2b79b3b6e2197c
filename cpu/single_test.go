package cpu_test

import (
	"fmt"
	"slices"
	"testing"

	"sextant/api"
)

// alias is an instruction that reads and writes, by the numbers of its registers as a listing has them: the one that is stored, added or compared; the other one; the address's.
type alias struct{ first, second, address int }

func aliases() (out []alias) {
	for _, first := range []int{1, 2, 3, 31} {
		for _, second := range []int{1, 2, 3, 31} {
			for _, address := range []int{1, 2, 3} {
				out = append(out, alias{first, second, address})
			}
		}
	}
	return out
}

func register(n int) string {
	if n == 31 {
		return "xzr"
	}
	return fmt.Sprint("x", n)
}

// Instructions that read and write, whose registers are one, or two of them, or three; each had been loaded, by the reads 0, 1 and 2.
func TestP16_3Singles(t *testing.T) {
	tried := map[string]int{}
	for _, a := range aliases() {
		for _, kind := range []string{"swp", "ldadd", "cas"} {
			if a.second == 31 && kind != "cas" || a.first == 31 && kind == "cas" {
				continue
			}
			for _, order := range []string{"", "a", "l", "al"} {
				values := map[int]uint64{1: 70, 2: 80, 3: 90, 31: 0}
				values[a.address] = api.Base + 24
				for _, v := range []uint64{values[a.first], values[a.first] + 1, 5, top} {
					tried[kind]++
					holdSingle(t, kind, order, a, values, v)
				}
			}
		}
	}
	if tried["swp"] != 4*4*36 || tried["ldadd"] != 4*4*36 || tried["cas"] != 4*4*36 {
		t.Errorf("not all is tried: %v", tried)
	}
}

func holdSingle(t *testing.T, kind, order string, a alias, values map[int]uint64, v uint64) {
	t.Helper()
	text := fmt.Sprintf("%s%s %s, %s, [%s]", kind, order, register(a.first), register(a.second), register(a.address))
	m := machine(t, set(9, api.Base)+"ldr x1, [x9]\nldr x2, [x9]\nldr x3, [x9]\n"+text+"\nstr x1, [x9]\nstr x2, [x9]\nstr x3, [x9]\nhlt #0")
	what := fmt.Sprintf("%s, of %v and %d", text, values, v)
	fed(t, what, m, values[1], values[2], values[3])
	readMode, writeMode := api.Plain, api.Plain
	if order == "a" || order == "al" {
		readMode = api.Acquire
	}
	if order == "l" || order == "al" {
		writeMode = api.Release
	}
	target, source, stored, done := a.second, a.first, values[a.first], true
	switch kind {
	case "ldadd":
		stored += v
	case "cas":
		target, source, stored, done = a.first, a.second, values[a.second], v == values[a.first]
	}
	told(t, what, m, one(wantLoad(3, readMode)))
	fed(t, what, m, v)
	after := map[int]uint64{1: values[1], 2: values[2], 3: values[3]}
	after[target] = v
	holdThree(t, what, m, after)
	want := api.Run{Events: []api.Event{read(0, values[1], api.Plain), read(0, values[2], api.Plain), read(0, values[3], api.Plain), read(3, v, readMode)}, Addr: pairs(a.address-1, 3), Used: 4}
	if done {
		told(t, what, m, one(wantStore(3, stored, writeMode)))
		halfway := want
		halfway.Events = slices.Clone(want.Events)
		holdRun(t, "P16.4: between the two of "+what, m.Run(), halfway)
		fed(t, what, m, 99)
		holdThree(t, what, m, after)
		want.Events = append(want.Events, write(3, stored, writeMode))
		want.Rmw, want.Addr = pairs(3, 4), pairs(a.address-1, 3, a.address-1, 4)
		if source != 31 {
			want.Data = pairs(source-1, 4)
		}
	}
	for n := 1; n < 4; n++ { // which reads the registers hang on now
		by, at := n-1, len(want.Events)
		if n == target {
			by = 3
		}
		want.Events = append(want.Events, write(0, after[n], api.Plain))
		want.Data = append(want.Data, api.Pair{A: by, B: at})
		fed(t, what, m, 0)
	}
	slices.SortFunc(want.Data, func(x, y api.Pair) int { return (x.A-y.A)*api.MaxEvents + x.B - y.B })
	want.State = api.Halted
	told(t, what, m, wantHalt)
	holdRun(t, "P16.4: "+what, m.Run(), want)
}

func holdThree(t *testing.T, what string, m interface{ Reg(n int) uint64 }, want map[int]uint64) {
	t.Helper()
	for n := 1; n < 4; n++ {
		if got := m.Reg(n); got != want[n] {
			t.Fatalf("P16.3: %s: x%d is %d, want %d", what, n, got, want[n])
		}
	}
}

// Between the load and the store no fault may come, nor an end, whatever there is behind the instruction.
func TestP16_3SinglesAtTheEnd(t *testing.T) {
	for _, c := range []struct {
		text string
		want api.Want
	}{
		{"swp x3, x1, [x1]", wantStore(0, 0, api.Plain)}, {"ldaddal x3, x1, [x1]", wantStore(0, 99, api.Release)}, {"ldadd x1, x1, [x1]", wantStore(0, api.Base+99, api.Plain)}, {"casl x3, x1, [x1]", wantStore(0, api.Base, api.Release)},
	} {
		v := uint64(99)
		if c.text == "casl x3, x1, [x1]" { // x3 is 0
			v = 0
		}
		m := machine(t, base+c.text)
		fed(t, c.text, m, v)
		told(t, c.text, m, one(c.want))
		fed(t, c.text, m, 0)
		told(t, c.text, m, wantFault)
		if r := m.Run(); len(r.Events) != 2 || !slices.Equal(r.Rmw, pairs(0, 1)) {
			t.Errorf("P16.4: %s: %+v", c.text, r)
		}
	}
	m := machine(t, base+counted(api.MaxFuel-1)+"swp x3, x4, [x1]\n"+counted(api.MaxFuel)+"hlt #0")
	fed(t, "a store begins a count too", m, 0, 0)
	told(t, "a store begins a count too", m, wantHalt)
}

// Whatever is fed for the store of a single instruction, it is done.
func TestP16_3SinglesValues(t *testing.T) {
	for _, v := range []uint64{0, 1, 2, 1 << 63, top} {
		m := machine(t, base+"movz x3, #6\nswp x3, x4, [x1]\nldadd x3, x5, [x1]\nhlt #0")
		fed(t, "swp", m, v, v, v, v)
		told(t, "swp", m, wantHalt)
		want := api.Run{Events: []api.Event{read(0, v, api.Plain), write(0, 6, api.Plain), read(0, v, api.Plain), write(0, v+6, api.Plain)}, Rmw: pairs(0, 1, 2, 3), State: api.Halted, Used: 2}
		holdRun(t, "P16.4: swp", m.Run(), want)
	}
}
