package code

import "sextant/api"

// The fields of an instruction, but for its operation.
const (
	none = iota
	rd
	rn
	rm
	imm
	cond
)

// How a field's number stands in its place.
const (
	plain  = iota // one below 0 as a number of so many bits
	eighth        // a multiple of 8, divided by it
	turned        // with its lowest bit turned
	double        // n as 64 - n and 63 - n side by side, six bits each
)

// The places that fields have; any: the register that is always 0 may stand there, too.
const (
	nowhere = iota // and there is no field
	rdAny
	rdReal
	rnAny
	rnReal
	rmAny
	rmReal
	immHalf
	immTwelve
	immLeft
	immRight
	immFar
	immNear
	immEighth
	immReal
	condQuarter
	condTurned
	condPlain
)

// place is where a field stands, from the bit at on, and its range.
type place struct {
	field, at, bits, how int
	least, most          int64
}

func placeOf(n int) place {
	switch n {
	case rdAny:
		return place{rd, 0, 5, plain, 0, 31}
	case rdReal:
		return place{rd, 0, 5, plain, 0, 30}
	case rnAny:
		return place{rn, 5, 5, plain, 0, 31}
	case rnReal:
		return place{rn, 5, 5, plain, 0, 30}
	case rmAny:
		return place{rm, 16, 5, plain, 0, 31}
	case rmReal:
		return place{rm, 16, 5, plain, 0, 30}
	case immHalf:
		return place{imm, 5, 16, plain, 0, 65535}
	case immTwelve:
		return place{imm, 10, 12, plain, 0, 4095}
	case immLeft:
		return place{imm, 10, 12, double, 1, 63}
	case immRight:
		return place{imm, 16, 6, plain, 0, 63}
	case immFar:
		return place{imm, 0, 26, plain, -1 << 25, 1<<25 - 1}
	case immNear:
		return place{imm, 5, 19, plain, -1 << 18, 1<<18 - 1}
	case immEighth:
		return place{imm, 10, 12, eighth, 0, 32760}
	case immReal:
		return place{imm, 5, 5, plain, 0, 30}
	case condQuarter:
		return place{cond, 21, 2, plain, 0, 3}
	case condTurned:
		return place{cond, 12, 4, turned, 0, 13}
	case condPlain:
		return place{cond, 0, 4, plain, 0, 13}
	}
	return place{}
}

// takes tells whether a number may stand in the place.
func (p place) takes(n int64) bool {
	return p.least <= n && n <= p.most && (p.how != eighth || n%8 == 0)
}

// lay tells the bits of a number that the place takes.
func (p place) lay(n int64) uint32 {
	switch p.how {
	case eighth:
		n /= 8
	case turned:
		n ^= 1
	case double:
		n = (64-n)<<6 | (63 - n)
	}
	return (uint32(n) & p.ones()) << p.at
}

// read tells the number whose bits stand in the place, if it takes any such number.
func (p place) read(w uint32) int64 {
	n := int64((w >> p.at) & p.ones())
	switch p.how {
	case eighth:
		return n * 8
	case turned:
		return n ^ 1
	case double:
		return 63 - (n & 63)
	}
	if p.least < 0 && n > p.most {
		return n - (1 << p.bits)
	}
	return n
}

func (p place) ones() uint32 { return 1<<p.bits - 1 }

func fieldOf(i api.Ins, field int) int64 {
	switch field {
	case rd:
		return int64(i.Rd)
	case rn:
		return int64(i.Rn)
	case rm:
		return int64(i.Rm)
	case imm:
		return i.Imm
	case cond:
		return int64(i.Cond)
	}
	return 0
}

func withField(i api.Ins, field int, n int64) api.Ins {
	switch field {
	case rd:
		i.Rd = int(n)
	case rn:
		i.Rn = int(n)
	case rm:
		i.Rm = int(n)
	case imm:
		i.Imm = n
	case cond:
		i.Cond = int(n)
	}
	return i
}
