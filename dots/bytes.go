package dots

import "sextant/api"

// mark is the first byte of a graph's bytes.
const mark = 71

// bytesOf are a plain graph's.
func bytesOf(g api.Graph) []byte {
	w := writer{mark}
	w.put(2, g.Cells, len(g.Events))
	for _, e := range g.Events {
		w.put(1, e.Thread+1, e.Kind)
		w.put(2, e.Loc+1)
		w.value(8, e.Val)
		w.put(1, e.Mode)
	}
	for _, l := range pairsOf(&g) {
		w.put(2, len(*l))
		for _, p := range *l {
			w.put(1, p.A, p.B)
		}
	}
	w.put(2, len(g.Co))
	for _, l := range g.Co {
		w.put(2, len(l))
		w.put(1, l...)
	}
	return w
}

// writer is what was written.
type writer []byte

// put writes numbers of so many bytes each.
func (w *writer) put(size int, numbers ...int) {
	for _, n := range numbers {
		w.value(size, uint64(n))
	}
}

func (w *writer) value(size int, n uint64) {
	for i := size - 1; i >= 0; i-- {
		*w = append(*w, byte(n>>(8*i)))
	}
}

// reader goes through bytes, up to at. It stops at the first one that is wrong; what it answers from then on means nothing.
type reader struct {
	bytes   []byte
	at      int
	stopped bool
}

func (r *reader) graph() (g api.Graph) {
	r.number(1, 0, func(n int) bool { return n == mark })
	g.Cells = r.number(2, 0, isCount)
	g.Events = several(r, isCount, r.event)
	for _, l := range pairsOf(&g) {
		*l = several(r, isPairs, r.pair)
	}
	g.Co = several(r, isLists, r.list)
	if !r.stopped && r.at < len(r.bytes) {
		r.stop(r.at)
	}
	return g
}

func (r *reader) event() (e api.Event) {
	e.Thread = r.number(1, 1, isThread)
	e.Kind = r.number(1, 0, isKind)
	e.Loc = r.number(2, 1, isLoc)
	e.Val = r.value(8)
	e.Mode = r.number(1, 0, isMode)
	return e
}

func (r *reader) pair() (p api.Pair) {
	p.A = r.point()
	p.B = r.point()
	return p
}

func (r *reader) list() []int { return several(r, isCount, r.point) }

func (r *reader) point() int { return r.number(1, 0, isNumber) }

// several reads how many there are, which may be refused, and then these.
func several[T any](r *reader, may func(n int) bool, read func() T) []T {
	n := r.number(2, 0, may)
	var out []T
	for len(out) < n && !r.stopped {
		out = append(out, read())
	}
	return out
}

// number reads one of so many bytes, which tell that much more than it is. One that may not stand there is wrong at its first byte.
func (r *reader) number(size, more int, may func(n int) bool) int {
	from := r.at
	n := int(r.value(size)) - more
	if !r.stopped && !may(n) {
		r.stop(from)
	}
	return n
}

// value reads a number of so many bytes, whatever it is. Bytes that end within it are wrong at their end, even where those that are left could begin no right number.
func (r *reader) value(size int) (n uint64) {
	if r.stopped {
		return 0
	}
	if len(r.bytes)-r.at < size {
		r.stop(len(r.bytes))
		return 0
	}
	for _, b := range r.bytes[r.at : r.at+size] {
		n = n<<8 | uint64(b)
	}
	r.at += size
	return n
}

func (r *reader) stop(at int) {
	r.at = at
	r.stopped = true
}
