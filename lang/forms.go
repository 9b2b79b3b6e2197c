package lang

import "sextant/api"

// What is told as the size of an array.
const (
	noCells = -1      // of `[0]`, as 0 is a cell's
	maxSize = 1 << 31 // of all that are greater
)

// form is what a kind of statements has. What stands in brackets stands there in this order: place, args, mode.
type form struct {
	word   string // ahead of its brackets
	sets   bool   // a name, that a let may stand ahead of
	place  bool
	args   int
	mode   bool
	blocks int // at most: the body, and that of else
}

// forms are those of all kinds; SSet has neither a word nor brackets.
var forms = [...]form{
	api.SSet:   {sets: true, args: 1},
	api.SLoad:  {word: "load", sets: true, place: true, mode: true},
	api.SStore: {word: "store", place: true, args: 1, mode: true},
	api.SXchg:  {word: "xchg", sets: true, place: true, args: 1, mode: true},
	api.SFadd:  {word: "fadd", sets: true, place: true, args: 1, mode: true},
	api.SCas:   {word: "cas", sets: true, place: true, args: 2, mode: true},
	api.SFence: {word: "fence", mode: true},
	api.SPrint: {word: "print", args: 1},
	api.SIf:    {word: "if", args: 1, blocks: 2},
	api.SWhile: {word: "while", args: 1, blocks: 1},
}

// modes are the words of all modes.
var modes = [...]string{api.Rlx: "rlx", api.Acq: "acq", api.Rel: "rel", api.AcqRel: "acqrel", api.SC: "sc"}

// kindOf is the kind with that word, of those that set a name or of the others; 0, if there is none.
func kindOf(word string, sets bool) int {
	for kind, f := range forms {
		if word != "" && f.word == word && f.sets == sets {
			return kind
		}
	}
	return 0
}

// modeOf is the mode with that word; 0, if there is none.
func modeOf(word string) int {
	for mode, w := range modes {
		if w == word {
			return mode
		}
	}
	return 0
}

// operands is how many an operation has; -1, if it is none.
func operands(op int) int {
	switch {
	case op == api.OpNum || op == api.OpLocal:
		return 0
	case op == api.OpNeg || op == api.OpNot || op == api.OpIs0:
		return 1
	case api.OpMul <= op && op <= api.OpGe:
		return 2
	}
	return -1
}

// levels are the signs of each level with their operations, the weakest first; those of the last one stand ahead of one operand, the others between two.
func levels() []map[string]int {
	return []map[string]int{
		{"|": api.OpOr},
		{"^": api.OpXor},
		{"&": api.OpAnd},
		{"==": api.OpEq, "!=": api.OpNe, "<": api.OpLt, "<=": api.OpLe, ">": api.OpGt, ">=": api.OpGe},
		{"<<": api.OpShl, ">>": api.OpShr},
		{"+": api.OpAdd, "-": api.OpSub},
		{"*": api.OpMul},
		{"-": api.OpNeg, "~": api.OpNot, "!": api.OpIs0},
	}
}

// sign is an operation's, with its level.
type sign struct {
	text  string
	level int
}

// signs are those of all operations.
func signs() map[int]sign {
	out := map[int]sign{}
	for level, ops := range levels() {
		for text, op := range ops {
			out[op] = sign{text: text, level: level}
		}
	}
	return out
}
