package cpu

import (
	"sextant/api"
	"sextant/code"
)

// The kinds of instructions, by what they want.
const (
	wantsNothing = iota
	loads
	opens // loads, and opens the monitor
	stores
	closes // stores, if the monitor is open
	compares
	swaps
	adds
	fences
	prints
	halts
)

func kindOf(op int) int {
	switch op {
	case code.Ldr, code.Ldar, code.Ldapr:
		return loads
	case code.Ldxr, code.Ldaxr:
		return opens
	case code.Str, code.Stlr:
		return stores
	case code.Stxr, code.Stlxr:
		return closes
	case code.Cas, code.Casa, code.Casl, code.Casal:
		return compares
	case code.Swp, code.Swpa, code.Swpl, code.Swpal:
		return swaps
	case code.Ldadd, code.Ldadda, code.Ldaddl, code.Ldaddal:
		return adds
	case code.DmbLd, code.DmbSy:
		return fences
	case code.Svc:
		return prints
	case code.Hlt:
		return halts
	}
	return wantsNothing
}

// readMode is that of an operation's load.
func readMode(op int) int {
	switch op {
	case code.Ldar, code.Ldaxr, code.Casa, code.Casal, code.Swpa, code.Swpal, code.Ldadda, code.Ldaddal:
		return api.Acquire
	case code.Ldapr:
		return api.AcquirePC
	}
	return api.Plain
}

// writeMode is that of an operation's store.
func writeMode(op int) int {
	switch op {
	case code.Stlr, code.Stlxr, code.Casl, code.Casal, code.Swpl, code.Swpal, code.Ldaddl, code.Ldaddal:
		return api.Release
	}
	return api.Plain
}

func fenceMode(op int) int {
	if op == code.DmbLd {
		return api.FenceLd
	}
	return api.FenceSy
}
