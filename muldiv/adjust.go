package muldiv

import (
	"drawloom/alu"
	"drawloom/api"
)

// Adjust puts a sum of decimal digits right: AL and AH, and the flags behind it.
func Adjust(op int, al, ah, base, flags uint32) (x, y, f uint32, ok bool, err api.Errno) {
	adjust, known := adjustments()[op]
	if !known {
		return 0, 0, 0, false, api.ErrOp
	}
	before := digits{al: uint8(al), ah: uint8(ah), af: flags&api.AF != 0, cf: flags&api.CF != 0}
	after, ok := adjust(before, uint8(base))
	if !ok {
		return 0, 0, 0, false, api.OK
	}
	x, y = uint32(after.al), uint32(after.ah)
	f = mark(flags, api.AF, after.af)
	f = mark(f, api.CF, after.cf)
	f = mark(f, api.OF, false)
	f, err = alu.Flags(1, x, f)
	return x, y, f, true, err
}

// digits are what is adjusted. The bytes wrap round, as P3.4 cuts them.
type digits struct {
	al, ah uint8
	af, cf bool
}

// adjustment tells the digits behind it, or false, if there are none.
type adjustment func(d digits, base uint8) (digits, bool)

func adjustments() map[int]adjustment {
	return map[int]adjustment{
		api.Daa: func(d digits, _ uint8) (digits, bool) { return d.packedSum(), true },
		api.Das: func(d digits, _ uint8) (digits, bool) { return d.packedDifference(), true },
		api.Aaa: func(d digits, _ uint8) (digits, bool) { return d.single(6, 1), true },
		api.Aas: func(d digits, _ uint8) (digits, bool) { return d.single(-6, -1), true },
		api.Aam: digits.part,
		api.Aad: digits.join,
	}
}

// lowOff: the lower digit is none, or what it came from went over it.
func (d digits) lowOff() bool { return d.al&15 > 9 || d.af }

// highOff: both digits are more than 99, or went over it; it is asked of AL as it was ahead of the lower digit's step.
func (d digits) highOff() bool { return d.al > 153 || d.cf }

func (d digits) packedSum() digits {
	out := digits{al: d.al, ah: d.ah, af: d.lowOff(), cf: d.highOff()}
	if out.af {
		out.al += 6
	}
	if out.cf {
		out.al += 96
	}
	return out
}

func (d digits) packedDifference() digits {
	out := digits{al: d.al, ah: d.ah, af: d.lowOff(), cf: d.highOff()}
	if out.af {
		out.al -= 6
	}
	if out.cf {
		out.al -= 96
	}
	// A borrow of the first step sets CF, but takes no 96 away.
	out.cf = out.cf || out.af && d.al < 6
	return out
}

// single leaves one digit in AL; step and carry are what AL and AH change by, if it is none.
func (d digits) single(step, carry int8) digits {
	out := digits{al: d.al, ah: d.ah, af: d.lowOff(), cf: d.lowOff()}
	if d.lowOff() {
		out.al += uint8(step)
		out.ah += uint8(carry)
	}
	out.al &= 15
	return out
}

func (d digits) part(base uint8) (digits, bool) {
	if base == 0 {
		return digits{}, false
	}
	return digits{al: d.al % base, ah: d.al / base}, true
}

func (d digits) join(base uint8) (digits, bool) {
	return digits{al: d.al + d.ah*base}, true
}
