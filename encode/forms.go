package encode

import (
	"slices"

	"drawloom/api"
)

// forms are the lines of decode's table that an instruction of that kind may be written by. What they are made of is not looked at: a number that none of them takes makes bytes that are read as something else.
func forms(x api.Inst) []form {
	if x.Size != 1 && x.Size != 2 && x.Size != 4 {
		return nil
	}
	if x.Op == api.IAlu {
		return sums(x)
	}
	return slices.Concat(arithmetic(x), moves(x), stack(x), bitwise(x), jumps(x), ports(x), bare(x), system(x))
}

// wide is how far the opcode of size v stands behind that of size 1.
func wide(size int) int {
	if size == 1 {
		return 0
	}
	return 1
}

// low keeps an opcode's other bits from a number that is no register.
func low(r int) int { return r & 7 }

func sums(x api.Inst) []form {
	w, value := wide(x.Size), number(x.B.Imm, x.Size)
	switch x.Sub {
	case api.Test:
		return []form{
			with(0x84+w, x.B.Reg, x.A),
			alone(0xA8+w, value...),
			with(0xF6+w, 0, x.A, value...),
		}
	case api.Inc:
		return []form{alone(0x40 + low(x.A.Reg)), with(0xFE+w, 0, x.A)}
	case api.Dec:
		return []form{alone(0x48 + low(x.A.Reg)), with(0xFE+w, 1, x.A)}
	case api.Not:
		return []form{with(0xF6+w, 2, x.A)}
	case api.Neg:
		return []form{with(0xF6+w, 3, x.A)}
	}
	first := 8 * x.Sub
	return []form{
		with(first+w, x.B.Reg, x.A),
		with(first+2+w, x.A.Reg, x.B),
		alone(first+4+w, value...),
		with(0x80+w, x.Sub, x.A, value...),
		with(0x83, x.Sub, x.A, byte(x.B.Imm)),
	}
}

func arithmetic(x api.Inst) []form {
	w := wide(x.Size)
	switch x.Op {
	case api.IShift:
		return []form{
			with(0xC0+w, x.Sub, x.A, byte(x.B.Imm)),
			with(0xD0+w, x.Sub, x.A),
			with(0xD2+w, x.Sub, x.A),
		}
	case api.IDouble:
		return []form{
			with(two+0xA4+8*x.Sub, x.B.Reg, x.A, byte(x.C.Imm)),
			with(two+0xA5+8*x.Sub, x.B.Reg, x.A),
		}
	case api.IMul:
		return []form{with(0xF6+w, 4+x.Sub, x.A)}
	case api.IDiv:
		return []form{with(0xF6+w, 6+x.Sub, x.A)}
	case api.IImul:
		return []form{
			with(0x69, x.A.Reg, x.B, number(x.C.Imm, x.Size)...),
			with(0x6B, x.A.Reg, x.B, byte(x.C.Imm)),
			with(two+0xAF, x.A.Reg, x.B),
		}
	case api.IAdjust:
		return []form{
			alone(0x27 + 8*x.Sub),
			alone(0xD4+x.Sub-api.Aam, byte(x.A.Imm)),
		}
	case api.IWiden:
		return []form{alone(0x98)}
	case api.IDivide:
		return []form{alone(0x99)}
	}
	return nil
}

func moves(x api.Inst) []form {
	w := wide(x.Size)
	switch x.Op {
	case api.IMov:
		value := number(x.B.Imm, x.Size)
		return []form{
			with(0x88+w, x.B.Reg, x.A),
			with(0x8A+w, x.A.Reg, x.B),
			alone(0xA0+w, number(x.B.Disp, 4)...),
			alone(0xA2+w, number(x.A.Disp, 4)...),
			alone(0xB0+8*w+low(x.A.Reg), value...),
			with(0xC6+w, 0, x.A, value...),
			with(0x8C, x.B.Reg, x.A),
			with(0x8E, x.A.Reg, x.B),
		}
	case api.IMovx:
		return []form{with(two+0xB6+8*x.Sub+wide(x.B.Size), x.A.Reg, x.B)}
	case api.IXchg:
		return []form{with(0x86+w, x.B.Reg, x.A), alone(0x90 + low(x.A.Reg))}
	case api.ILea:
		return []form{with(0x8D, x.A.Reg, x.B)}
	case api.ICmov:
		return []form{with(two+0x40+x.Sub, x.A.Reg, x.B)}
	case api.IBswap:
		return []form{alone(two + 0xC8 + low(x.A.Reg))}
	case api.IString:
		return picked(x.Sub, 0xA4+w, 0xA6+w, 0xAA+w, 0xAC+w, 0xAE+w)
	}
	return nil
}

// picked is the opcode that a number chooses, if it chooses one.
func picked(i int, codes ...int) []form {
	if i < 0 || i >= len(codes) || codes[i] == none {
		return nil
	}
	return []form{alone(codes[i])}
}

func stack(x api.Inst) []form {
	switch x.Op {
	case api.IPush:
		return slices.Concat([]form{
			alone(0x50 + low(x.A.Reg)),
			alone(0x68, number(x.A.Imm, x.Size)...),
			alone(0x6A, byte(x.A.Imm)),
			with(0xFF, 6, x.A),
		}, picked(x.A.Reg, 0x06, 0x0E, 0x16, 0x1E, two+0xA0, two+0xA8))
	case api.IPop:
		return slices.Concat([]form{
			alone(0x58 + low(x.A.Reg)),
			with(0x8F, 0, x.A),
		}, picked(x.A.Reg, 0x07, none, 0x17, 0x1F, two+0xA1, two+0xA9))
	case api.IPusha:
		return []form{alone(0x60)}
	case api.IPopa:
		return []form{alone(0x61)}
	case api.IPushf:
		return []form{alone(0x9C)}
	case api.IPopf:
		return []form{alone(0x9D)}
	case api.ILeave:
		return []form{alone(0xC9)}
	}
	return nil
}

func bitwise(x api.Inst) []form {
	switch x.Op {
	case api.IBit:
		return []form{
			with(two+0xA3+8*x.Sub, x.B.Reg, x.A),
			with(two+0xBA, 4+x.Sub, x.A, byte(x.B.Imm)),
		}
	case api.IScan:
		return []form{with(two+0xBC+x.Sub, x.A.Reg, x.B)}
	case api.ISet:
		return []form{with(two+0x90+x.Sub, 0, x.A)}
	}
	return nil
}

func jumps(x api.Inst) []form {
	short, far := byte(x.A.Imm), number(x.A.Imm, x.Size)
	switch x.Op {
	case api.IJmp:
		return []form{alone(0xEB, short), alone(0xE9, far...), with(0xFF, 4, x.A)}
	case api.IJcc:
		return []form{alone(0x70+x.Sub, short), alone(two+0x80+x.Sub, far...)}
	case api.ICall:
		return []form{alone(0xE8, far...), with(0xFF, 2, x.A)}
	case api.IRet:
		return []form{alone(0xC3), alone(0xC2, number(x.A.Imm, 2)...)}
	case api.ILoop:
		return []form{alone(0xE0+x.Sub, short)}
	case api.IInt:
		return []form{alone(0xCC), alone(0xCD, short), alone(0xCE)}
	case api.IIret:
		return []form{alone(0xCF)}
	case api.IFar:
		return []form{alone(0xEA, slices.Concat(far, number(x.A.Disp, 2))...)}
	}
	return nil
}

func ports(x api.Inst) []form {
	w := wide(x.Size)
	switch x.Op {
	case api.IIn:
		return []form{alone(0xE4+w, byte(x.B.Imm)), alone(0xEC + w)}
	case api.IOut:
		return []form{alone(0xE6+w, byte(x.A.Imm)), alone(0xEE + w)}
	}
	return nil
}

// bare are those that have no operands.
func bare(x api.Inst) []form {
	switch x.Op {
	case api.ISahf:
		return []form{alone(0x9E)}
	case api.ILahf:
		return []form{alone(0x9F)}
	case api.IFlag:
		return picked(x.Sub, 0xF8, 0xF9, 0xF5, 0xFC, 0xFD, 0xFA, 0xFB)
	case api.IHlt:
		return []form{alone(0xF4)}
	case api.INop:
		return []form{alone(0x90)}
	case api.IClts:
		return []form{alone(two + 0x06)}
	}
	return nil
}

func system(x api.Inst) []form {
	switch x.Op {
	case api.ILgdt:
		return []form{with(two+0x01, 2, x.A)}
	case api.ILidt:
		return []form{with(two+0x01, 3, x.A)}
	case api.IInvlpg:
		return []form{with(two+0x01, 7, x.A)}
	case api.ILtr:
		return []form{with(two+0x00, 3, x.A)}
	case api.IMovcr:
		return []form{with(two+0x20, x.B.Reg, x.A), with(two+0x22, x.A.Reg, x.B)}
	}
	return nil
}
