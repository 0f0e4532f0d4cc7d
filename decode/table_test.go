package decode

import (
	"fmt"
	"slices"
	"strconv"
	"strings"

	"drawloom/api"
)

// line is a line of the document's table with its n, r and c put in, and what it means is told the other way round: it is written, not read.
type line struct {
	code     []byte
	n        int // of /n; -1: any
	op, sub  int
	size     string // b 1, w 2, d 4, v
	operands []string
}

// The operands' words: letters of the document and a size; r3v the register 3, s2 the segment register 2, =7 the number 7, X a string's memory, Rd the register rm, C the control register, F a far place.
func put(all []line, code string, op, sub int, size, operands string) []line {
	x := line{n: -1, op: op, sub: sub, size: size, operands: strings.Fields(operands)}
	for _, w := range strings.Fields(code) {
		if w[0] == '/' {
			x.n = int(w[1] - '0')
			continue
		}
		b, err := strconv.ParseUint(w, 16, 8)
		if err != nil {
			panic(code)
		}
		x.code = append(x.code, byte(b))
	}
	return append(all, x)
}

func table() []line {
	var all []line
	add := func(code string, op, sub int, size, operands string) {
		all = put(all, code, op, sub, size, operands)
	}
	numbered := func(format string, op, first, count, sub, step int, size, operands string) {
		for i := range count {
			word := operands
			if strings.Contains(operands, "%") {
				word = fmt.Sprintf(operands, i)
			}
			add(fmt.Sprintf(format, first+i), op, sub+step*i, size, word)
		}
	}
	for n := range 8 {
		for i, c := range []struct{ size, operands string }{{"b", "Eb Gb"}, {"v", "Ev Gv"}, {"b", "Gb Eb"}, {"v", "Gv Ev"}, {"b", "r0b Ib"}, {"v", "r0v Iv"}} {
			add(fmt.Sprintf("%02X", 8*n+i), api.IAlu, n, c.size, c.operands)
		}
	}
	for i, c := range []string{"06", "0E", "16", "1E", "0F A0", "0F A8"} {
		add(c, api.IPush, 0, "v", fmt.Sprintf("s%d", i))
	}
	for i, c := range []string{"07", "", "17", "1F", "0F A1", "0F A9"} {
		if i != api.Cs {
			add(c, api.IPop, 0, "v", fmt.Sprintf("s%d", i))
		}
	}
	for i, c := range []string{"27", "2F", "37", "3F"} {
		add(c, api.IAdjust, i, "b", "")
	}
	numbered("%02X", api.IAdjust, 0xD4, 2, 4, 1, "b", "Ib")
	numbered("%02X", api.IAlu, 0x40, 8, 9, 0, "v", "r%dv")
	numbered("%02X", api.IAlu, 0x48, 8, 10, 0, "v", "r%dv")
	numbered("%02X", api.IPush, 0x50, 8, 0, 0, "v", "r%dv")
	numbered("%02X", api.IPop, 0x58, 8, 0, 0, "v", "r%dv")
	add("68", api.IPush, 0, "v", "Iv")
	add("6A", api.IPush, 0, "v", "Is")
	add("8F /0", api.IPop, 0, "v", "Ev")
	add("60", api.IPusha, 0, "v", "")
	add("61", api.IPopa, 0, "v", "")
	add("9C", api.IPushf, 0, "v", "")
	add("9D", api.IPopf, 0, "v", "")
	add("9E", api.ISahf, 0, "b", "")
	add("9F", api.ILahf, 0, "b", "")
	add("69", api.IImul, 0, "v", "Gv Ev Iv")
	add("6B", api.IImul, 0, "v", "Gv Ev Is")
	add("0F AF", api.IImul, 0, "v", "Gv Ev")
	numbered("%02X", api.IJcc, 0x70, 16, 0, 1, "v", "Jb")
	numbered("0F %02X", api.IJcc, 0x80, 16, 0, 1, "v", "Jv")
	numbered("80 /%d", api.IAlu, 0, 8, 0, 1, "b", "Eb Ib")
	numbered("81 /%d", api.IAlu, 0, 8, 0, 1, "v", "Ev Iv")
	numbered("83 /%d", api.IAlu, 0, 8, 0, 1, "v", "Ev Is")
	add("84", api.IAlu, 8, "b", "Eb Gb")
	add("85", api.IAlu, 8, "v", "Ev Gv")
	add("A8", api.IAlu, 8, "b", "r0b Ib")
	add("A9", api.IAlu, 8, "v", "r0v Iv")
	numbered("F6 /%d", api.IAlu, 0, 2, 8, 0, "b", "Eb Ib")
	numbered("F7 /%d", api.IAlu, 0, 2, 8, 0, "v", "Ev Iv")
	add("86", api.IXchg, 0, "b", "Eb Gb")
	add("87", api.IXchg, 0, "v", "Ev Gv")
	for r := 1; r < 8; r++ {
		add(fmt.Sprintf("%02X", 0x90+r), api.IXchg, 0, "v", fmt.Sprintf("r%dv r0v", r))
	}
	add("90", api.INop, 0, "d", "")
	add("88", api.IMov, 0, "b", "Eb Gb")
	add("89", api.IMov, 0, "v", "Ev Gv")
	add("8A", api.IMov, 0, "b", "Gb Eb")
	add("8B", api.IMov, 0, "v", "Gv Ev")
	add("A0", api.IMov, 0, "b", "r0b Ob")
	add("A1", api.IMov, 0, "v", "r0v Ov")
	add("A2", api.IMov, 0, "b", "Ob r0b")
	add("A3", api.IMov, 0, "v", "Ov r0v")
	numbered("%02X", api.IMov, 0xB0, 8, 0, 0, "b", "r%db Ib")
	numbered("%02X", api.IMov, 0xB8, 8, 0, 0, "v", "r%dv Iv")
	add("C6 /0", api.IMov, 0, "b", "Eb Ib")
	add("C7 /0", api.IMov, 0, "v", "Ev Iv")
	for n := range 6 {
		add(fmt.Sprintf("8C /%d", n), api.IMov, 0, "s", fmt.Sprintf("Es s%d", n))
	}
	for _, n := range []int{0, 2, 3, 4, 5} {
		add(fmt.Sprintf("8E /%d", n), api.IMov, 0, "w", fmt.Sprintf("s%d Ew", n))
	}
	add("8D", api.ILea, 0, "v", "Gv Mv")
	add("98", api.IWiden, 0, "v", "")
	add("99", api.IDivide, 0, "v", "")
	for i, c := range []int{0xA4, 0xA6, 0xAA, 0xAC, 0xAE} {
		add(fmt.Sprintf("%02X", c), api.IString, i, "b", "Xb")
		add(fmt.Sprintf("%02X", c+1), api.IString, i, "v", "Xv")
	}
	return moreTable(all)
}

func moreTable(all []line) []line {
	add := func(code string, op, sub int, size, operands string) {
		all = put(all, code, op, sub, size, operands)
	}
	for n := range 8 {
		for _, c := range []struct{ code, size, operands string }{{"C0", "b", "Eb Ib"}, {"C1", "v", "Ev Ib"}, {"D0", "b", "Eb =1"}, {"D1", "v", "Ev =1"}, {"D2", "b", "Eb r1b"}, {"D3", "v", "Ev r1b"}} {
			add(fmt.Sprintf("%s /%d", c.code, n), api.IShift, n, c.size, c.operands)
		}
		add(fmt.Sprintf("0F %02X", 0xC8+n), api.IBswap, 0, "d", fmt.Sprintf("r%dd", n))
	}
	add("C2", api.IRet, 0, "v", "Iw")
	add("C3", api.IRet, 0, "v", "=0")
	add("C9", api.ILeave, 0, "v", "")
	add("CF", api.IIret, 0, "v", "")
	add("CC", api.IInt, 1, "d", "=3")
	add("CD", api.IInt, 0, "d", "Ib")
	add("CE", api.IInt, 2, "d", "=4")
	add("E0", api.ILoop, 0, "v", "Jb")
	add("E1", api.ILoop, 1, "v", "Jb")
	add("E2", api.ILoop, 2, "v", "Jb")
	add("E3", api.ILoop, 3, "v", "Jb")
	add("E4", api.IIn, 0, "b", "r0b Ib")
	add("E5", api.IIn, 0, "v", "r0v Ib")
	add("E6", api.IOut, 0, "b", "Ib r0b")
	add("E7", api.IOut, 0, "v", "Ib r0v")
	add("EC", api.IIn, 0, "b", "r0b r2w")
	add("ED", api.IIn, 0, "v", "r0v r2w")
	add("EE", api.IOut, 0, "b", "r2w r0b")
	add("EF", api.IOut, 0, "v", "r2w r0v")
	add("E8", api.ICall, 0, "v", "Jv")
	add("E9", api.IJmp, 0, "v", "Jv")
	add("EB", api.IJmp, 0, "v", "Jb")
	add("EA", api.IFar, 0, "v", "F")
	add("F4", api.IHlt, 0, "d", "")
	for i, c := range []string{"F8", "F9", "F5", "FC", "FD", "FA", "FB"} {
		add(c, api.IFlag, i, "d", "")
	}
	for i, c := range []struct{ code, size, operand string }{{"F6", "b", "Eb"}, {"F7", "v", "Ev"}} {
		add(c.code+" /2", api.IAlu, 12, c.size, c.operand)
		add(c.code+" /3", api.IAlu, 11, c.size, c.operand)
		add(c.code+" /4", api.IMul, 0, c.size, c.operand)
		add(c.code+" /5", api.IMul, 1, c.size, c.operand)
		add(c.code+" /6", api.IDiv, 0, c.size, c.operand)
		add(c.code+" /7", api.IDiv, 1, c.size, c.operand)
		add(fmt.Sprintf("%02X /0", 0xFE+i), api.IAlu, 9, c.size, c.operand)
		add(fmt.Sprintf("%02X /1", 0xFE+i), api.IAlu, 10, c.size, c.operand)
	}
	add("FF /2", api.ICall, 0, "v", "Ev")
	add("FF /4", api.IJmp, 0, "v", "Ev")
	add("FF /6", api.IPush, 0, "v", "Ev")
	add("0F 00 /3", api.ILtr, 0, "w", "Ew")
	add("0F 01 /2", api.ILgdt, 0, "d", "Md")
	add("0F 01 /3", api.ILidt, 0, "d", "Md")
	add("0F 01 /7", api.IInvlpg, 0, "d", "Md")
	add("0F 06", api.IClts, 0, "d", "")
	for _, n := range []int{0, 2, 3} {
		add(fmt.Sprintf("0F 20 /%d", n), api.IMovcr, 0, "d", "Rd C")
		add(fmt.Sprintf("0F 22 /%d", n), api.IMovcr, 0, "d", "C Rd")
	}
	for c := range 16 {
		add(fmt.Sprintf("0F %02X", 0x40+c), api.ICmov, c, "v", "Gv Ev")
		add(fmt.Sprintf("0F %02X", 0x90+c), api.ISet, c, "b", "Eb")
	}
	for i := range 4 {
		add(fmt.Sprintf("0F %02X", 0xA3+8*i), api.IBit, i, "v", "Ev Gv")
		add(fmt.Sprintf("0F BA /%d", 4+i), api.IBit, i, "v", "Ev Ib")
	}
	for i := range 2 {
		add(fmt.Sprintf("0F %02X", 0xA4+8*i), api.IDouble, i, "v", "Ev Gv Ib")
		add(fmt.Sprintf("0F %02X", 0xA5+8*i), api.IDouble, i, "v", "Ev Gv r1b")
		add(fmt.Sprintf("0F %02X", 0xB6+8*i), api.IMovx, i, "v", "Gv Eb")
		add(fmt.Sprintf("0F %02X", 0xB7+8*i), api.IMovx, i, "v", "Gv Ew")
		add(fmt.Sprintf("0F %02X", 0xBC+i), api.IScan, i, "v", "Gv Ev")
	}
	return all
}

func (x line) hasModRM() bool {
	return slices.ContainsFunc(x.operands, func(w string) bool { return strings.Contains("EGMRC", w[:1]) })
}

// takes tells whether the line has instructions with such bits of ModRM.
func (x line) takes(mod, n int) bool {
	mustBeMemory := slices.ContainsFunc(x.operands, func(w string) bool { return w[0] == 'M' })
	return (x.n < 0 || x.n == n) && !(mustBeMemory && mod == 3)
}

// choice is what an instruction of a line may have.
type choice struct {
	seg, v, rep        int // seg -1, rep 0: no such prefix
	mod, n, rm         int
	scale, index, base int    // the fields of SIB
	number             uint32 // the lowest bytes of each number
}

// prefixes are the fewest that say it.
func (c choice) prefixes() []byte {
	var b []byte
	if c.seg >= 0 {
		b = append(b, []byte{0x26, 0x2E, 0x36, 0x3E, 0x64, 0x65}[c.seg])
	}
	if c.v == 2 {
		b = append(b, 0x66)
	}
	if c.rep != 0 {
		b = append(b, []byte{0, 0xF3, 0xF2}[c.rep])
	}
	return b
}

func (c choice) sizeOf(letter byte) int {
	switch letter {
	case 'b':
		return 1
	case 'w':
		return 2
	case 'd':
		return 4
	case 's':
		if c.mod != 3 {
			return 2
		}
	}
	return c.v
}

// lowest is the number's lowest bytes, and them as bytes.
func (c choice) lowest(size int) (uint32, []byte) {
	n, b := uint64(0), []byte{}
	for i := range size {
		digit := uint64(c.number) >> (8 * i) % 256
		b = append(b, byte(digit))
		n += digit << (8 * i)
	}
	return uint32(n), b
}

func (c choice) lowestSigned(size int) (uint32, []byte) {
	n, b := c.lowest(size)
	if b[size-1] >= 128 {
		n = uint32(int64(n) - int64(1)<<(8*size))
	}
	return n, b
}

func (c choice) memory(size int) api.Operand {
	o := api.Operand{Kind: 2, Size: size, Seg: 3, Base: -1, Index: -1, Scale: 1}
	if c.seg >= 0 {
		o.Seg = c.seg
	}
	return o
}

// operandE is E, and what stands behind ModRM for it.
func (c choice) operandE(size int) (api.Operand, []byte) {
	if c.mod == 3 {
		return api.Operand{Kind: 1, Reg: c.rm, Size: size}, nil
	}
	o := c.memory(size)
	base := c.rm
	var b []byte
	if c.rm == 4 {
		base = c.base
		b = append(b, byte(64*c.scale+8*c.index+c.base))
		if c.index != 4 {
			o.Index = c.index
			o.Scale = []int{1, 2, 4, 8}[c.scale]
		}
	}
	behind := []byte{}
	switch {
	case c.mod == 1:
		o.Disp, behind = c.lowestSigned(1)
	case c.mod == 2 || base == 5:
		o.Disp, behind = c.lowest(4)
	}
	if c.mod != 0 || base != 5 {
		o.Base = base
		if c.seg < 0 && (base == 4 || base == 5) {
			o.Seg = 2
		}
	}
	return o, append(b, behind...)
}

// operand writes one by its word: what it is, and what stands behind opcode and ModRM.
func (c choice) operand(word string) (api.Operand, []byte) {
	size := c.sizeOf(word[len(word)-1])
	digit := int(word[len(word)-1] - '0')
	switch word[0] {
	case 'r':
		return api.Operand{Kind: 1, Reg: int(word[1] - '0'), Size: size}, nil
	case 's':
		return api.Operand{Kind: 4, Reg: digit}, nil
	case '=':
		return api.Operand{Kind: 3, Imm: uint32(digit)}, nil
	case 'G':
		return api.Operand{Kind: 1, Reg: c.n, Size: size}, nil
	case 'R':
		return api.Operand{Kind: 1, Reg: c.rm, Size: size}, nil
	case 'C':
		return api.Operand{Kind: 5, Reg: c.n}, nil
	case 'X':
		return c.memory(size), nil
	case 'O':
		o := c.memory(size)
		n, b := c.lowest(4)
		o.Disp = n
		return o, b
	case 'I':
		if word == "Is" {
			n, b := c.lowestSigned(1)
			if c.v == 2 {
				n %= 1 << 16
			}
			return api.Operand{Kind: 3, Imm: n}, b
		}
		n, b := c.lowest(size)
		return api.Operand{Kind: 3, Imm: n}, b
	case 'J':
		n, b := c.lowestSigned(size)
		return api.Operand{Kind: 6, Imm: n}, b
	case 'F':
		at, b := c.lowest(c.v)
		selector, more := c.lowest(2)
		return api.Operand{Kind: 7, Imm: at, Disp: selector}, append(b, more...)
	}
	return c.operandE(size)
}

// write is the instruction, and its bytes behind the prefixes.
func (x line) write(c choice) (api.Inst, []byte) {
	b := slices.Clone(x.code)
	if x.hasModRM() {
		b = append(b, byte(64*c.mod+8*c.n+c.rm))
	}
	out := api.Inst{Op: x.op, Sub: x.sub, Size: c.sizeOf(x.size[0])}
	for i, w := range x.operands {
		o, more := c.operand(w)
		*[]*api.Operand{&out.A, &out.B, &out.C}[i] = o
		b = append(b, more...)
	}
	if x.op == api.IString {
		out.Rep = c.rep
	}
	out.Len = len(c.prefixes()) + len(b)
	return out, b
}

// all is write with the prefixes ahead.
func (x line) all(c choice) (api.Inst, []byte) {
	out, b := x.write(c)
	return out, append(c.prefixes(), b...)
}
