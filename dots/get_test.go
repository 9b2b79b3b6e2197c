package dots_test

import (
	"bytes"
	"fmt"
	"slices"
	"testing"

	"sextant/api"
	"sextant/dots"
)

func TestP9_2Examples(t *testing.T) {
	if g, at, e := dots.Get(exampleBytes()); e != api.OK || at != 0 || !alike(g, example()) {
		t.Errorf("P9.2: Get is %+v, %d, %v", g, at, e)
	}
	for _, x := range []struct {
		b  []byte
		at int
	}{
		{nil, 0}, {[]byte{70}, 0}, {[]byte{71, 1, 1}, 1}, {[]byte{71, 0, 0, 0, 1, 65}, 5},
		{[]byte{71}, 1}, {[]byte{70, 0}, 0}, {[]byte{71, 0, 0, 1, 1}, 3}, {[]byte{71, 1, 0, 1, 0}, 5},
	} {
		if g, at, e := dots.Get(x.b); e != api.EBYTES || at != x.at || !empty(g) {
			t.Errorf("P9.2: Get of % d is %+v, %d, %v; want EBYTES at %d", x.b, g, at, e, x.at)
		}
	}
}

// Bytes that end within a number are wrong at their end, whatever is left of the number; those of a whole one at its first byte.
func TestP9_2CutNumbers(t *testing.T) {
	head := []byte{71, 0, 0, 0, 0, 0, 0, 0, 0, 0, 0, 0, 0, 0, 0}
	for high := range 256 {
		for _, x := range []struct {
			ahead []byte
			most  int
		}{
			{[]byte{71}, 256}, {[]byte{71, 0, 9}, 256}, {[]byte{71, 0, 0, 0, 1, 1, 1}, 4096},
			{head[:5], 65535}, {head[:13], 65535}, {head, 4096}, {append(slices.Clone(head), 0, 1), 256},
		} {
			b := append(slices.Clone(x.ahead), byte(high))
			if _, at, e := dots.Get(b); e != api.EBYTES || at != len(b) {
				t.Errorf("P9.2: Get of % d is %d, %v", b, at, e)
			}
			for _, low := range []int{0, 1, 255} {
				want := len(b) + 1
				if high<<8+low > x.most {
					want = len(x.ahead)
				}
				c := append(slices.Clone(b), byte(low))
				if _, at, e := dots.Get(c); want < len(c) && (e != api.EBYTES || at != want) || e != api.OK && at < want {
					t.Errorf("P9.2: Get of % d is %d, %v; want %d", c, at, e, want)
				}
			}
		}
	}
}

// Bytes that are cut off at each place, and such with more behind them.
func TestP9_2CutOff(t *testing.T) {
	for i, g := range some(200) {
		b := mustPut(t, g)
		for n := range min(len(b), 3000) {
			if h, at, e := dots.Get(b[:n]); e != api.EBYTES || at != n || !empty(h) {
				t.Fatalf("P9.2: case %d: Get of %d bytes of %d is %d, %v", i, n, len(b), at, e)
			}
		}
		for last := range 256 {
			c := append(slices.Clone(b), byte(last))
			for range 2 {
				if h, at, e := dots.Get(c); e != api.EBYTES || at != len(b) || !empty(h) {
					t.Fatalf("P9.2: case %d: Get of bytes and %d more is %d, %v", i, len(c)-len(b), at, e)
				}
				c = append(c, b...)
			}
			if i > 20 {
				break
			}
		}
	}
}

// Each byte, changed to each other one, by itself, with what is behind it cut off, and two at once.
func TestP9_2EachByte(t *testing.T) {
	got := map[bool]int{}
	for i, g := range []api.Graph{{}, example(), full(), ofWords(), made(dice(5), false), made(dice(6), true)} {
		b := mustPut(t, g)
		for at := range b {
			for v := range 256 {
				what := fmt.Sprintf("case %d, the byte %d is %d", i, at, v)
				c := slices.Clone(b)
				c[at] = byte(v)
				got[holdGet(t, what, c)]++
				holdGet(t, what+", cut off", c[:at+1])
				roll := dice(uint64(i<<20 + at<<8 + v))
				c[roll(len(c))] = []byte{0, 1, 2, 71, 255, byte(roll(256))}[roll(6)]
				holdGet(t, what+", and another one", c)
				holdGet(t, what+", and another one, cut off", c[:roll(len(c)+1)])
			}
		}
	}
	if got[false] < 5000 || got[true] < 5000 {
		t.Errorf("not all is tried: %v", got)
	}
}

// Bytes put in and taken out.
func TestP9_2MoreAndLess(t *testing.T) {
	for i, g := range some(100) {
		b := mustPut(t, g)
		if len(b) > 1000 {
			continue
		}
		for at := range b {
			what := fmt.Sprintf("case %d, at %d", i, at)
			holdGet(t, what+" one less", slices.Delete(slices.Clone(b), at, at+1))
			for _, v := range []byte{0, 1, 4, 71, 255} {
				holdGet(t, what+" one more", slices.Insert(slices.Clone(b), at, v))
			}
		}
	}
}

// All short bytes of a few values, and long ones of any.
func TestP9_2AllBytes(t *testing.T) {
	values := []byte{0, 1, 2, 17, 71}
	for n := range 7 {
		b := make([]byte, n)
		for k := 0; ; k++ {
			rest := k
			for i := range b {
				b[i] = values[rest%5]
				rest /= 5
			}
			if rest > 0 {
				break
			}
			holdGet(t, "short", b)
			holdGet(t, "short behind a mark", append([]byte{71}, b...))
			holdGet(t, "short behind an event", append([]byte{71, 0, 1, 0, 1, 1, 1, 0, 1, 0, 0, 0, 0, 0, 0, 0, 0, 5}, b...))
			holdGet(t, "short behind the pairs", append([]byte{71, 0, 1, 0, 0, 0, 0, 0, 0, 0, 0, 0, 0, 0, 0}, b...))
		}
	}
	right := 0
	for i := range 20000 {
		roll := dice(uint64(i))
		b := []byte{71, byte(roll(8) / 7), 0, 0, 0}
		for range roll(30) {
			b = append(b, []byte{0, byte(roll(20) / 18), byte(roll(3) * roll(256) / 400)}[roll(3)])
		}
		if holdGet(t, fmt.Sprint("any ", i), b) {
			right++
		}
	}
	if right < 50 {
		t.Errorf("not all is tried: %d", right)
	}
}

// The counts as great as they may be, and greater by one.
func TestP9_2LongLists(t *testing.T) {
	for i, g := range []api.Graph{
		largest(), {Rf: make([]api.Pair, 65535)}, {Rmw: make([]api.Pair, 65535)}, {Addr: make([]api.Pair, 65535)}, {Data: make([]api.Pair, 65535)},
		{Ctrl: make([]api.Pair, 65535)}, {Co: make([][]int, 4096)}, {Co: [][]int{nil, make([]int, 256), make([]int, 256)}},
	} {
		b := modelPut(g)
		if h, at, e := dots.Get(b); e != api.OK || at != 0 || !alike(h, g) {
			t.Errorf("P9.2: case %d: Get is %d, %v", i, at, e)
		}
		if _, at, e := dots.Get(b[:len(b)-1]); e != api.EBYTES || at != len(b)-1 {
			t.Errorf("P9.2: case %d, one byte less: Get is %d, %v", i, at, e)
		}
	}
	zeros := make([]byte, 20000)
	for what, x := range map[string]struct {
		ahead []byte
		at    int
	}{
		"257 cells":   {[]byte{71, 1, 1}, 1},
		"257 events":  {[]byte{71, 0, 0, 1, 1}, 3},
		"4097 lists":  {append([]byte{71}, append(make([]byte, 14), 16, 1)...), 15},
		"257 numbers": {append([]byte{71}, append(make([]byte, 14), 0, 1, 1, 1)...), 17},
	} {
		b := slices.Concat(x.ahead, zeros)
		if g, at, e := dots.Get(b); e != api.EBYTES || at != x.at || !empty(g) {
			t.Errorf("P9.2: %s: Get is %d, %v", what, at, e)
		}
		if want := wrongByte(b); want != x.at {
			t.Errorf("the model: %s: %d", what, want)
		}
	}
	b := bytes.Repeat([]byte{255}, 1<<20)
	b[0] = 71
	if _, at, e := dots.Get(b); e != api.EBYTES || at != 1 {
		t.Errorf("P9.2: Get of many bytes is %d, %v", at, e)
	}
}
