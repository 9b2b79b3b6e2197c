package cpu

import "sextant/code"

// flags are those of a difference.
type flags struct{ n, z, c, v bool }

func flagsOf(a, b uint64) flags {
	d := a - b
	return flags{
		n: d>>63 == 1,
		z: d == 0,
		c: a >= b,
		v: (a^b)&(a^d)>>63 == 1, // only of two signs it may not fit; then it hasn't a's
	}
}

// hold tells whether a condition does.
func (f flags) hold(cond int) bool {
	switch cond {
	case code.Eq:
		return f.z
	case code.Ne:
		return !f.z
	case code.Hs:
		return f.c
	case code.Lo:
		return !f.c
	case code.Mi:
		return f.n
	case code.Pl:
		return !f.n
	case code.Vs:
		return f.v
	case code.Vc:
		return !f.v
	case code.Hi:
		return f.c && !f.z
	case code.Ls:
		return !f.c || f.z
	case code.Ge:
		return f.n == f.v
	case code.Lt:
		return f.n != f.v
	case code.Gt:
		return f.n == f.v && !f.z
	}
	return f.n != f.v || f.z // Le
}
