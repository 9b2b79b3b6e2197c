package code

import "sextant/api"

// form is what several operations have in common: the bits that are no field's, and where the fields stand. apart: the status may not be in a register that the store itself uses.
type form struct {
	mask   uint32
	places [3]int
	apart  bool
}

var forms = [...]form{
	halfWord:    {0xff800000, [3]int{rdAny, immHalf, condQuarter}, false},
	ofTwo:       {0xffe0fc00, [3]int{rdAny, rnAny, rmAny}, false},
	ofNumber:    {0xffc00000, [3]int{rdReal, rnReal, immTwelve}, false},
	shiftLeft:   {0xffc00000, [3]int{rdAny, rnAny, immLeft}, false},
	shiftRight:  {0xffc0fc00, [3]int{rdAny, rnAny, immRight}, false},
	compare:     {0xffe0fc1f, [3]int{rnAny, rmAny}, false},
	set:         {0xffff0fe0, [3]int{rdAny, condTurned}, false},
	jump:        {0xfc000000, [3]int{immFar}, false},
	jumpCond:    {0xff000010, [3]int{condPlain, immNear}, false},
	jumpZero:    {0xff000000, [3]int{rdAny, immNear}, false},
	atOffset:    {0xffc00000, [3]int{rdAny, rnReal, immEighth}, false},
	atRegister:  {0xfffffc00, [3]int{rdAny, rnReal}, false},
	storeStatus: {0xffe0fc00, [3]int{rdAny, rnReal, rmReal}, true},
	compareSwap: {0xffe0fc00, [3]int{rdAny, rnReal, rmReal}, false},
	swapOrAdd:   {0xffe0fc00, [3]int{rdReal, rnReal, rmAny}, false},
	call:        {0xfffffc1f, [3]int{immReal}, false},
}

// fits tells whether the form's fields are in their ranges, and all others 0.
func (f form) fits(i api.Ins) bool {
	others := i
	for _, n := range f.places {
		p := placeOf(n)
		if !p.takes(fieldOf(i, p.field)) {
			return false
		}
		others = withField(others, p.field, 0)
	}
	if f.apart && (i.Rm == i.Rd || i.Rm == i.Rn) {
		return false
	}
	return others == api.Ins{Op: i.Op}
}

// lay tells the fields' bits.
func (f form) lay(i api.Ins) uint32 {
	bits := uint32(0)
	for _, n := range f.places {
		p := placeOf(n)
		bits |= p.lay(fieldOf(i, p.field))
	}
	return bits
}

// read tells the instruction whose fields a word's bits are, in their ranges or not.
func (f form) read(op int, w uint32) api.Ins {
	i := api.Ins{Op: op}
	for _, n := range f.places {
		p := placeOf(n)
		i = withField(i, p.field, p.read(w))
	}
	return i
}
