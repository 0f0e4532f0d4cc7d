package decode

import (
	"drawloom/api"
)

// rule takes the bytes behind an opcode.
type rule func(f *form)

// find is an opcode's rule, nil if there is none. Opcodes stand in several maps, so that a call makes only a small one.
func find(op int) rule {
	switch op >> 5 {
	case 0x00 >> 5, 0x20 >> 5:
		return from00(op)[op]
	case 0x40 >> 5, 0x60 >> 5:
		return from40(op)[op]
	case 0x80 >> 5:
		return from80(op)[op]
	case 0xA0 >> 5:
		return fromA0(op)[op]
	case 0xC0 >> 5:
		return fromC0()[op]
	case 0xE0 >> 5:
		return fromE0()[op]
	}
	return from0F(op)[op]
}

// from00 is 00 to 3F.
func from00(op int) map[int]rule {
	first := op &^ 7
	return map[int]rule{
		first + 0: func(f *form) { f.is(api.IAlu, f.n(), 1, partE, partG) },
		first + 1: func(f *form) { f.is(api.IAlu, f.n(), f.v, partE, partG) },
		first + 2: func(f *form) { f.is(api.IAlu, f.n(), 1, partG, partE) },
		first + 3: func(f *form) { f.is(api.IAlu, f.n(), f.v, partG, partE) },
		first + 4: func(f *form) { f.is(api.IAlu, f.n(), 1, partA, partI) },
		first + 5: func(f *form) { f.is(api.IAlu, f.n(), f.v, partA, partI) },
		0x06:      func(f *form) { f.is(api.IPush, 0, f.v, segment(api.Es)) },
		0x0E:      func(f *form) { f.is(api.IPush, 0, f.v, segment(api.Cs)) },
		0x16:      func(f *form) { f.is(api.IPush, 0, f.v, segment(api.Ss)) },
		0x1E:      func(f *form) { f.is(api.IPush, 0, f.v, segment(api.Ds)) },
		0x07:      func(f *form) { f.is(api.IPop, 0, f.v, segment(api.Es)) },
		0x17:      func(f *form) { f.is(api.IPop, 0, f.v, segment(api.Ss)) },
		0x1F:      func(f *form) { f.is(api.IPop, 0, f.v, segment(api.Ds)) },
		0x27:      func(f *form) { f.is(api.IAdjust, api.Daa, 1) },
		0x2F:      func(f *form) { f.is(api.IAdjust, api.Das, 1) },
		0x37:      func(f *form) { f.is(api.IAdjust, api.Aaa, 1) },
		0x3F:      func(f *form) { f.is(api.IAdjust, api.Aas, 1) },
	}
}

// from40 is 40 to 7F.
func from40(op int) map[int]rule {
	r, c := op&7, op&15
	return map[int]rule{
		0x40 + r: func(f *form) { f.is(api.IAlu, api.Inc, f.v, partR) },
		0x48 + r: func(f *form) { f.is(api.IAlu, api.Dec, f.v, partR) },
		0x50 + r: func(f *form) { f.is(api.IPush, 0, f.v, partR) },
		0x58 + r: func(f *form) { f.is(api.IPop, 0, f.v, partR) },
		0x60:     func(f *form) { f.is(api.IPusha, 0, f.v) },
		0x61:     func(f *form) { f.is(api.IPopa, 0, f.v) },
		0x68:     func(f *form) { f.is(api.IPush, 0, f.v, partI) },
		0x69:     func(f *form) { f.is(api.IImul, 0, f.v, partG, partE, partI) },
		0x6A:     func(f *form) { f.is(api.IPush, 0, f.v, partIs) },
		0x6B:     func(f *form) { f.is(api.IImul, 0, f.v, partG, partE, partIs) },
		0x70 + c: func(f *form) { f.is(api.IJcc, f.c(), f.v, partJb) },
	}
}

// from80 is 80 to 9F.
func from80(op int) map[int]rule {
	r := op & 7
	rows := map[int]rule{
		0x80:     func(f *form) { f.is(api.IAlu, f.modrm().n, 1, partE, partI) },
		0x81:     func(f *form) { f.is(api.IAlu, f.modrm().n, f.v, partE, partI) },
		0x83:     func(f *form) { f.is(api.IAlu, f.modrm().n, f.v, partE, partIs) },
		0x84:     func(f *form) { f.is(api.IAlu, api.Test, 1, partE, partG) },
		0x85:     func(f *form) { f.is(api.IAlu, api.Test, f.v, partE, partG) },
		0x86:     func(f *form) { f.is(api.IXchg, 0, 1, partE, partG) },
		0x87:     func(f *form) { f.is(api.IXchg, 0, f.v, partE, partG) },
		0x88:     func(f *form) { f.is(api.IMov, 0, 1, partE, partG) },
		0x89:     func(f *form) { f.is(api.IMov, 0, f.v, partE, partG) },
		0x8A:     func(f *form) { f.is(api.IMov, 0, 1, partG, partE) },
		0x8B:     func(f *form) { f.is(api.IMov, 0, f.v, partG, partE) },
		0x8C:     fromSegment,
		0x8D:     address,
		0x8E:     toSegment,
		0x8F:     func(f *form) { f.only(0); f.is(api.IPop, 0, f.v, partE) },
		0x90 + r: func(f *form) { f.is(api.IXchg, 0, f.v, partR, partA) },
		0x98:     func(f *form) { f.is(api.IWiden, 0, f.v) },
		0x99:     func(f *form) { f.is(api.IDivide, 0, f.v) },
		0x9C:     func(f *form) { f.is(api.IPushf, 0, f.v) },
		0x9D:     func(f *form) { f.is(api.IPopf, 0, f.v) },
		0x9E:     func(f *form) { f.is(api.ISahf, 0, 1) },
		0x9F:     func(f *form) { f.is(api.ILahf, 0, 1) },
	}
	rows[0x90] = func(f *form) { f.is(api.INop, 0, 4) } // no register 0 with itself
	return rows
}

// fromA0 is A0 to BF.
func fromA0(op int) map[int]rule {
	r := op & 7
	return map[int]rule{
		0xA0:     func(f *form) { f.is(api.IMov, 0, 1, partA, partO) },
		0xA1:     func(f *form) { f.is(api.IMov, 0, f.v, partA, partO) },
		0xA2:     func(f *form) { f.is(api.IMov, 0, 1, partO, partA) },
		0xA3:     func(f *form) { f.is(api.IMov, 0, f.v, partO, partA) },
		0xA4:     func(f *form) { f.isString(0, 1) },
		0xA5:     func(f *form) { f.isString(0, f.v) },
		0xA6:     func(f *form) { f.isString(1, 1) },
		0xA7:     func(f *form) { f.isString(1, f.v) },
		0xA8:     func(f *form) { f.is(api.IAlu, api.Test, 1, partA, partI) },
		0xA9:     func(f *form) { f.is(api.IAlu, api.Test, f.v, partA, partI) },
		0xAA:     func(f *form) { f.isString(2, 1) },
		0xAB:     func(f *form) { f.isString(2, f.v) },
		0xAC:     func(f *form) { f.isString(3, 1) },
		0xAD:     func(f *form) { f.isString(3, f.v) },
		0xAE:     func(f *form) { f.isString(4, 1) },
		0xAF:     func(f *form) { f.isString(4, f.v) },
		0xB0 + r: func(f *form) { f.is(api.IMov, 0, 1, partR, partI) },
		0xB8 + r: func(f *form) { f.is(api.IMov, 0, f.v, partR, partI) },
	}
}

// fromC0 is C0 to DF.
func fromC0() map[int]rule {
	return map[int]rule{
		0xC0: func(f *form) { f.is(api.IShift, f.modrm().n, 1, partE, partIb) },
		0xC1: func(f *form) { f.is(api.IShift, f.modrm().n, f.v, partE, partIb) },
		0xC2: func(f *form) { f.is(api.IRet, 0, f.v, partIw) },
		0xC3: func(f *form) { f.is(api.IRet, 0, f.v, constant(0)) },
		0xC6: func(f *form) { f.only(0); f.is(api.IMov, 0, 1, partE, partI) },
		0xC7: func(f *form) { f.only(0); f.is(api.IMov, 0, f.v, partE, partI) },
		0xC9: func(f *form) { f.is(api.ILeave, 0, f.v) },
		0xCC: func(f *form) { f.is(api.IInt, 1, 4, constant(3)) },
		0xCD: func(f *form) { f.is(api.IInt, 0, 4, partIb) },
		0xCE: func(f *form) { f.is(api.IInt, 2, 4, constant(4)) },
		0xCF: func(f *form) { f.is(api.IIret, 0, f.v) },
		0xD0: func(f *form) { f.is(api.IShift, f.modrm().n, 1, partE, constant(1)) },
		0xD1: func(f *form) { f.is(api.IShift, f.modrm().n, f.v, partE, constant(1)) },
		0xD2: func(f *form) { f.is(api.IShift, f.modrm().n, 1, partE, partCL) },
		0xD3: func(f *form) { f.is(api.IShift, f.modrm().n, f.v, partE, partCL) },
		0xD4: func(f *form) { f.is(api.IAdjust, api.Aam, 1, partI) },
		0xD5: func(f *form) { f.is(api.IAdjust, api.Aad, 1, partI) },
	}
}

// fromE0 is E0 to FF.
func fromE0() map[int]rule {
	return map[int]rule{
		0xE0: func(f *form) { f.is(api.ILoop, 0, f.v, partJb) },
		0xE1: func(f *form) { f.is(api.ILoop, 1, f.v, partJb) },
		0xE2: func(f *form) { f.is(api.ILoop, 2, f.v, partJb) },
		0xE3: func(f *form) { f.is(api.ILoop, 3, f.v, partJb) },
		0xE4: func(f *form) { f.is(api.IIn, 0, 1, partA, partIb) },
		0xE5: func(f *form) { f.is(api.IIn, 0, f.v, partA, partIb) },
		0xE6: func(f *form) { f.is(api.IOut, 0, 1, partIb, partA) },
		0xE7: func(f *form) { f.is(api.IOut, 0, f.v, partIb, partA) },
		0xE8: func(f *form) { f.is(api.ICall, 0, f.v, partJ) },
		0xE9: func(f *form) { f.is(api.IJmp, 0, f.v, partJ) },
		0xEA: func(f *form) { f.is(api.IFar, 0, f.v, partFar) },
		0xEB: func(f *form) { f.is(api.IJmp, 0, f.v, partJb) },
		0xEC: func(f *form) { f.is(api.IIn, 0, 1, partA, partDX) },
		0xED: func(f *form) { f.is(api.IIn, 0, f.v, partA, partDX) },
		0xEE: func(f *form) { f.is(api.IOut, 0, 1, partDX, partA) },
		0xEF: func(f *form) { f.is(api.IOut, 0, f.v, partDX, partA) },
		0xF4: func(f *form) { f.is(api.IHlt, 0, 4) },
		0xF5: func(f *form) { f.is(api.IFlag, 2, 4) },
		0xF6: func(f *form) { unary(f, 1) },
		0xF7: func(f *form) { unary(f, f.v) },
		0xF8: func(f *form) { f.is(api.IFlag, 0, 4) },
		0xF9: func(f *form) { f.is(api.IFlag, 1, 4) },
		0xFA: func(f *form) { f.is(api.IFlag, 5, 4) },
		0xFB: func(f *form) { f.is(api.IFlag, 6, 4) },
		0xFC: func(f *form) { f.is(api.IFlag, 3, 4) },
		0xFD: func(f *form) { f.is(api.IFlag, 4, 4) },
		0xFE: func(f *form) { f.only(0, 1); f.is(api.IAlu, api.Inc+f.modrm().n, 1, partE) },
		0xFF: countOrGo,
	}
}

// from0F is 0F and one more.
func from0F(op int) map[int]rule {
	r, c := op&7, op&15
	return map[int]rule{
		two + 0x00:     func(f *form) { f.only(3); f.is(api.ILtr, 0, 2, partE) },
		two + 0x01:     system,
		two + 0x06:     func(f *form) { f.is(api.IClts, 0, 4) },
		two + 0x20:     func(f *form) { f.only(0, 2, 3); f.is(api.IMovcr, 0, 4, partRm, partCr) },
		two + 0x22:     func(f *form) { f.only(0, 2, 3); f.is(api.IMovcr, 0, 4, partCr, partRm) },
		two + 0x40 + c: func(f *form) { f.is(api.ICmov, f.c(), f.v, partG, partE) },
		two + 0x80 + c: func(f *form) { f.is(api.IJcc, f.c(), f.v, partJ) },
		two + 0x90 + c: func(f *form) { f.is(api.ISet, f.c(), 1, partE) },
		two + 0xA0:     func(f *form) { f.is(api.IPush, 0, f.v, segment(api.Fs)) },
		two + 0xA1:     func(f *form) { f.is(api.IPop, 0, f.v, segment(api.Fs)) },
		two + 0xA3:     func(f *form) { f.is(api.IBit, api.Bt, f.v, partE, partG) },
		two + 0xA4:     func(f *form) { f.is(api.IDouble, 0, f.v, partE, partG, partIb) },
		two + 0xA5:     func(f *form) { f.is(api.IDouble, 0, f.v, partE, partG, partCL) },
		two + 0xA8:     func(f *form) { f.is(api.IPush, 0, f.v, segment(api.Gs)) },
		two + 0xA9:     func(f *form) { f.is(api.IPop, 0, f.v, segment(api.Gs)) },
		two + 0xAB:     func(f *form) { f.is(api.IBit, api.Bts, f.v, partE, partG) },
		two + 0xAC:     func(f *form) { f.is(api.IDouble, 1, f.v, partE, partG, partIb) },
		two + 0xAD:     func(f *form) { f.is(api.IDouble, 1, f.v, partE, partG, partCL) },
		two + 0xAF:     func(f *form) { f.is(api.IImul, 0, f.v, partG, partE) },
		two + 0xB3:     func(f *form) { f.is(api.IBit, api.Btr, f.v, partE, partG) },
		two + 0xB6:     func(f *form) { f.is(api.IMovx, 0, f.v, partG, partEb) },
		two + 0xB7:     func(f *form) { f.is(api.IMovx, 0, f.v, partG, partEw) },
		two + 0xBA:     func(f *form) { f.only(4, 5, 6, 7); f.is(api.IBit, f.modrm().n-4, f.v, partE, partIb) },
		two + 0xBB:     func(f *form) { f.is(api.IBit, api.Btc, f.v, partE, partG) },
		two + 0xBC:     func(f *form) { f.is(api.IScan, 0, f.v, partG, partE) },
		two + 0xBD:     func(f *form) { f.is(api.IScan, 1, f.v, partG, partE) },
		two + 0xBE:     func(f *form) { f.is(api.IMovx, 1, f.v, partG, partEb) },
		two + 0xBF:     func(f *form) { f.is(api.IMovx, 1, f.v, partG, partEw) },
		two + 0xC8 + r: func(f *form) { f.is(api.IBswap, 0, 4, partR) },
	}
}
