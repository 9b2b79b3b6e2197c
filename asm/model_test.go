package asm_test

import (
	"fmt"
	"math/big"
	"regexp"
	"slices"
	"strings"

	"sextant/api"
	"sextant/code"
)

// row is one of the chapter's table, in Print's own layout: X is a register, W a status, # a number, P the number of a part, C a condition, T a target; fields says what they are: Rd, Rn, Rm, Imm, Cond, Part, Target.
type row struct {
	op     int
	text   string
	fields []rune
}

// tableText has the operations in their order, one a line; two rows of one operation are parted by |, the short one first.
const tableText = `movz X, #:DI|movz X, #, lsl P:DIP
movk X, #:DI|movk X, #, lsl P:DIP
add X, X, X:DNM
sub X, X, X:DNM
and X, X, X:DNM
orr X, X, X:DNM
eor X, X, X:DNM
orn X, X, X:DNM
mul X, X, X:DNM
lsl X, X, X:DNM
lsr X, X, X:DNM
add X, X, #:DNI
sub X, X, #:DNI
lsl X, X, #:DNI
lsr X, X, #:DNI
cmp X, X:NM
cset X, C:DC
b T:T
b.? T:T
cbz X, T:DT
cbnz X, T:DT
ldr X, [X]:DN|ldr X, [X, #]:DNI
str X, [X]:DN|str X, [X, #]:DNI
ldar X, [X]:DN
stlr X, [X]:DN
ldxr X, [X]:DN
ldaxr X, [X]:DN
stxr W, X, [X]:MDN
stlxr W, X, [X]:MDN
dmb ld:
dmb sy:
nop:
svc #:I
hlt #:I
ldapr X, [X]:DN
cas X, X, [X]:MDN
casa X, X, [X]:MDN
casl X, X, [X]:MDN
casal X, X, [X]:MDN
swp X, X, [X]:MDN
swpa X, X, [X]:MDN
swpl X, X, [X]:MDN
swpal X, X, [X]:MDN
ldadd X, X, [X]:MDN
ldadda X, X, [X]:MDN
ldaddl X, X, [X]:MDN
ldaddal X, X, [X]:MDN`

var conds = strings.Fields("eq ne hs lo mi pl vs vc hi ls ge lt gt le")

// table is made once: no test changes it.
var table = func() (out []row) {
	for n, line := range strings.Split(tableText, "\n") {
		for _, part := range strings.Split(line, "|") {
			text, fields, _ := strings.Cut(part, ":")
			out = append(out, row{n + 1, text, []rune(fields)})
		}
	}
	return out
}()

func rowsOf(op int) (out []row) {
	for _, r := range table {
		if r.op == op {
			out = append(out, r)
		}
	}
	return out
}

// nameOf is the first word of a row.
func (r row) nameOf() string { return strings.Fields(r.text)[0] }

// isInstruction tells whether a name is one of the table's.
func isInstruction(name string) bool {
	for _, c := range conds {
		if name == "b."+c {
			return true
		}
	}
	return slices.ContainsFunc(table, func(r row) bool { return name == r.nameOf() })
}

// told is an instruction's line, where target is its target's text.
func told(i api.Ins, target string) string {
	rows := rowsOf(i.Op)
	r := rows[0]
	if len(rows) > 1 && (i.Op <= code.Movk && i.Cond > 0 || i.Op >= code.Ldr && i.Imm > 0) {
		r = rows[1]
	}
	var out strings.Builder
	k := 0
	for _, c := range r.text {
		switch c {
		case 'X', 'W', '#', 'P', 'C', 'T':
			out.WriteString(fieldText(r.fields[k], c == 'W', i, target))
			k++
		case '?':
			out.WriteString(conds[i.Cond])
		default:
			out.WriteRune(c)
		}
	}
	return out.String()
}

func fieldText(field rune, status bool, i api.Ins, target string) string {
	n := map[rune]int{'D': i.Rd, 'N': i.Rn, 'M': i.Rm}[field]
	switch {
	case field == 'I':
		return fmt.Sprintf("#%d", i.Imm)
	case field == 'P':
		return fmt.Sprintf("#%d", 16*i.Cond)
	case field == 'C':
		return conds[i.Cond]
	case field == 'T':
		return target
	case status:
		return fmt.Sprintf("w%d", n)
	case n == 31:
		return "xzr"
	}
	return fmt.Sprintf("x%d", n)
}

// listing is what Print tells, by the chapter's words.
func listing(l []api.Ins) string {
	at := make([]bool, len(l)+1)
	for n, i := range l {
		if to := n + int(i.Imm); isBranch(i.Op) && to >= 0 && to <= len(l) {
			at[to] = true
		}
	}
	label := func(to int) string {
		before := 0
		for _, is := range at[:to] {
			if is {
				before++
			}
		}
		return fmt.Sprintf("L%d", before)
	}
	var out strings.Builder
	for n := range len(l) + 1 {
		if at[n] {
			out.WriteString(label(n) + ":\n")
		}
		if n == len(l) {
			break
		}
		target := fmt.Sprintf(".%+d", l[n].Imm)
		if to := n + int(l[n].Imm); isBranch(l[n].Op) && to >= 0 && to <= len(l) {
			target = label(to)
		}
		out.WriteString(told(l[n], target) + "\n")
	}
	return out.String()
}

const (
	anyBlanks = `[ \t\r]*`
	oneName   = `[A-Za-z_][A-Za-z0-9_.]*`
)

// pattern is a row as a regular expression of a line, labels ahead of it.
type pattern struct {
	row
	cond int
	name string
	form *regexp.Regexp
}

var (
	patterns  = newPatterns()
	noneForm  = lineForm("")
	labelForm = regexp.MustCompile(`(` + oneName + `)` + anyBlanks + `:`)
	pieceForm = regexp.MustCompile(`[a-z.]+|.`)
)

func lineForm(rest string) *regexp.Regexp {
	return regexp.MustCompile(`^` + anyBlanks + `((?:` + oneName + anyBlanks + `:` + anyBlanks + `)*)` + rest + anyBlanks + `$`)
}

func newPatterns() (out []pattern) {
	for _, r := range table {
		if r.op != code.Bcond {
			out = append(out, pattern{r, 0, r.nameOf(), lineForm(expression(r.text))})
			continue
		}
		for n, c := range conds {
			out = append(out, pattern{r, n, "b." + c, lineForm(expression(strings.Replace(r.text, "?", c, 1)))})
		}
	}
	return out
}

// expression is that of a row's text: between two names, and a name and a target, there are blanks; elsewhere there may be.
func expression(text string) string {
	forms := map[string]string{
		"X": `(x[12]?[0-9]|x30|xzr)`, "W": `(w[12]?[0-9]|w30)`, "C": `(` + strings.Join(conds, "|") + `)`,
		"#": `(#-?0x[0-9a-f]+|#-?[0-9]+)`, "P": `(#-?0x[0-9a-f]+|#-?[0-9]+)`, "T": `(\.[+-][0-9]+|` + oneName + `)`,
	}
	out, behindName := "", false
	for _, piece := range pieceForm.FindAllString(text, -1) {
		if piece == " " {
			continue
		}
		isName := piece == "X" || piece == "W" || piece == "C" || piece[0] >= 'a' && piece[0] <= 'z'
		if behindName && (isName || piece == "T") {
			out += `[ \t\r]+`
		} else {
			out += anyBlanks
		}
		form, ok := forms[piece]
		if !ok {
			form = regexp.QuoteMeta(piece)
		}
		out += form
		behindName = isName
	}
	return out
}

// modelLine is what a line may say: its labels, its instruction if it has one, and the name that it branches to.
func modelLine(line string) (labels []string, i api.Ins, target string, ok bool) {
	line, _, _ = strings.Cut(line, "//")
	if m := noneForm.FindStringSubmatch(line); m != nil {
		labels, ok = modelLabels(m[1])
		return labels, api.Ins{}, "", ok
	}
	for _, p := range patterns {
		if !strings.Contains(line, p.name) {
			continue
		}
		m := p.form.FindStringSubmatch(line)
		if m == nil {
			continue
		}
		labels, ok = modelLabels(m[1])
		i, target, fits := p.instruction(m[2:])
		if ok && fits && code.Fits(i) {
			return labels, i, target, true
		}
	}
	return nil, api.Ins{}, "", false
}

func modelLabels(text string) (out []string, ok bool) {
	for _, m := range labelForm.FindAllStringSubmatch(text, -1) {
		if isInstruction(m[1]) {
			return nil, false
		}
		out = append(out, m[1])
	}
	return out, true
}

// instruction is that of what the places of a pattern hold.
func (p pattern) instruction(held []string) (i api.Ins, target string, ok bool) {
	i = api.Ins{Op: p.op, Cond: p.cond}
	for n, f := range p.fields {
		switch text := held[n]; f {
		case 'D':
			i.Rd = registerNumber(text)
		case 'N':
			i.Rn = registerNumber(text)
		case 'M':
			i.Rm = registerNumber(text)
		case 'C':
			i.Cond = slices.Index(conds, text)
		case 'T':
			if text[0] != '.' {
				target = text
				continue
			}
			text = "#" + strings.TrimPrefix(text[1:], "+")
			fallthrough
		default:
			v := bigValue(text)
			if !v.IsInt64() {
				return i, "", false
			}
			i.Imm = v.Int64()
		case 'P':
			v, rest := new(big.Int).QuoRem(bigValue(text), big.NewInt(16), new(big.Int))
			if rest.Sign() != 0 || v.Sign() < 0 || v.Cmp(big.NewInt(3)) > 0 {
				return i, "", false
			}
			i.Cond = int(v.Int64())
		}
	}
	return i, target, true
}

func registerNumber(text string) (n int) {
	if text == "xzr" {
		return 31
	}
	fmt.Sscanf(text[1:], "%d", &n)
	return n
}

func bigValue(text string) *big.Int {
	text, negative := strings.CutPrefix(text[1:], "-")
	base := 10
	if digits, hex := strings.CutPrefix(text, "0x"); hex {
		base, text = 16, digits
	}
	v, _ := new(big.Int).SetString(text, base)
	if negative {
		v.Neg(v)
	}
	return v
}

// modelParse is what Parse tells, by the chapter's words.
func modelParse(text string) ([]uint32, int, api.Errno) {
	if len(text) > api.MaxText {
		return nil, 0, api.ELIMIT
	}
	type wait struct {
		at, line int
		name     string
	}
	var l []api.Ins
	var waits []wait
	labels := map[string]int{}
	for n, line := range strings.Split(text, "\n") {
		names, i, target, ok := modelLine(line)
		if !ok {
			return nil, n + 1, api.ETEXT
		}
		for _, name := range names {
			if _, twice := labels[name]; twice {
				return nil, n + 1, api.ETWICE
			}
			labels[name] = len(l)
		}
		if target != "" {
			waits = append(waits, wait{len(l), n + 1, target})
		}
		if i.Op != 0 {
			l = append(l, i)
		}
	}
	for _, w := range waits {
		to, ok := labels[w.name]
		if !ok {
			return nil, w.line, api.ENAME
		}
		l[w.at].Imm = int64(to - w.at)
	}
	var out []uint32
	for _, i := range l {
		w, e := code.Encode(i)
		if e != api.OK {
			panic(fmt.Sprint(i, e))
		}
		out = append(out, w)
	}
	return out, 0, api.OK
}
