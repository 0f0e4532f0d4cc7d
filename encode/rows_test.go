package encode

import (
	"slices"
	"strings"

	"drawloom/api"
)

// row is a line of the document's table of opcodes, looked at from the instruction: what it takes, and how many bytes its opcode has. Which bytes these are is not said here.
type row struct {
	op          int
	first, last int    // Sub
	size        string // b 1, w 2, d 4, v
	code        int    // bytes of the opcode
	operands    string
}

// The operands' words: the document's letters, and a size; R a register, M memory, E either in ModRM; r a register in the opcode; =1 the number 1; S012 one of these segment registers; C a control register; X a string's memory; F a far place; CL, DX, A registers.
func rows() []row {
	return slices.Concat(rowsOfSums(), rowsOfMoves(), rowsOfOthers())
}

func rowsOfSums() []row {
	return []row{
		{api.IAlu, 0, 7, "b", 1, "Eb Gb"},
		{api.IAlu, 0, 7, "v", 1, "Ev Gv"},
		{api.IAlu, 0, 7, "b", 1, "Gb Eb"},
		{api.IAlu, 0, 7, "v", 1, "Gv Ev"},
		{api.IAlu, 0, 7, "b", 1, "Ab Ib"},
		{api.IAlu, 0, 7, "v", 1, "Av Iv"},
		{api.IAlu, 0, 7, "b", 1, "Eb Ib"},
		{api.IAlu, 0, 7, "v", 1, "Ev Iv"},
		{api.IAlu, 0, 7, "v", 1, "Ev Is"},
		{api.IAlu, 8, 8, "b", 1, "Eb Gb"},
		{api.IAlu, 8, 8, "v", 1, "Ev Gv"},
		{api.IAlu, 8, 8, "b", 1, "Ab Ib"},
		{api.IAlu, 8, 8, "v", 1, "Av Iv"},
		{api.IAlu, 8, 8, "b", 1, "Eb Ib"},
		{api.IAlu, 8, 8, "v", 1, "Ev Iv"},
		{api.IAlu, 9, 10, "v", 1, "rv"},
		{api.IAlu, 9, 12, "b", 1, "Eb"},
		{api.IAlu, 9, 12, "v", 1, "Ev"},
		{api.IShift, 0, 7, "b", 1, "Eb Ib"},
		{api.IShift, 0, 7, "v", 1, "Ev Ib"},
		{api.IShift, 0, 7, "b", 1, "Eb =1"},
		{api.IShift, 0, 7, "v", 1, "Ev =1"},
		{api.IShift, 0, 7, "b", 1, "Eb CL"},
		{api.IShift, 0, 7, "v", 1, "Ev CL"},
		{api.IDouble, 0, 1, "v", 2, "Ev Gv Ib"},
		{api.IDouble, 0, 1, "v", 2, "Ev Gv CL"},
		{api.IMul, 0, 1, "b", 1, "Eb"},
		{api.IMul, 0, 1, "v", 1, "Ev"},
		{api.IDiv, 0, 1, "b", 1, "Eb"},
		{api.IDiv, 0, 1, "v", 1, "Ev"},
		{api.IImul, 0, 0, "v", 1, "Gv Ev Iv"},
		{api.IImul, 0, 0, "v", 1, "Gv Ev Is"},
		{api.IImul, 0, 0, "v", 2, "Gv Ev"},
		{api.IAdjust, 0, 3, "b", 1, ""},
		{api.IAdjust, 4, 5, "b", 1, "Ib"},
		{api.IWiden, 0, 0, "v", 1, ""},
		{api.IDivide, 0, 0, "v", 1, ""},
		{api.IBit, 0, 3, "v", 2, "Ev Gv"},
		{api.IBit, 0, 3, "v", 2, "Ev Ib"},
		{api.IScan, 0, 1, "v", 2, "Gv Ev"},
		{api.ISet, 0, 15, "b", 2, "Eb"},
	}
}

func rowsOfMoves() []row {
	return []row{
		{api.IMov, 0, 0, "b", 1, "Eb Gb"},
		{api.IMov, 0, 0, "v", 1, "Ev Gv"},
		{api.IMov, 0, 0, "b", 1, "Gb Eb"},
		{api.IMov, 0, 0, "v", 1, "Gv Ev"},
		{api.IMov, 0, 0, "b", 1, "Ab Ob"},
		{api.IMov, 0, 0, "v", 1, "Av Ov"},
		{api.IMov, 0, 0, "b", 1, "Ob Ab"},
		{api.IMov, 0, 0, "v", 1, "Ov Av"},
		{api.IMov, 0, 0, "b", 1, "rb Ib"},
		{api.IMov, 0, 0, "v", 1, "rv Iv"},
		{api.IMov, 0, 0, "b", 1, "Eb Ib"},
		{api.IMov, 0, 0, "v", 1, "Ev Iv"},
		{api.IMov, 0, 0, "v", 1, "Rv S012345"},
		{api.IMov, 0, 0, "w", 1, "Mw S012345"},
		{api.IMov, 0, 0, "w", 1, "S02345 Ew"},
		{api.IMovx, 0, 1, "v", 2, "Gv Eb"},
		{api.IMovx, 0, 1, "v", 2, "Gv Ew"},
		{api.ICmov, 0, 15, "v", 2, "Gv Ev"},
		{api.IXchg, 0, 0, "b", 1, "Eb Gb"},
		{api.IXchg, 0, 0, "v", 1, "Ev Gv"},
		{api.IXchg, 0, 0, "v", 1, "rv Av"}, // not the register 0 with itself: see takes
		{api.ILea, 0, 0, "v", 1, "Gv Mv"},
		{api.IBswap, 0, 0, "d", 2, "rd"},
		{api.IString, 0, 4, "b", 1, "Xb"},
		{api.IString, 0, 4, "v", 1, "Xv"},
		{api.IPush, 0, 0, "v", 1, "S0123"},
		{api.IPush, 0, 0, "v", 2, "S45"},
		{api.IPush, 0, 0, "v", 1, "rv"},
		{api.IPush, 0, 0, "v", 1, "Iv"},
		{api.IPush, 0, 0, "v", 1, "Is"},
		{api.IPush, 0, 0, "v", 1, "Ev"},
		{api.IPop, 0, 0, "v", 1, "S023"},
		{api.IPop, 0, 0, "v", 2, "S45"},
		{api.IPop, 0, 0, "v", 1, "rv"},
		{api.IPop, 0, 0, "v", 1, "Ev"},
		{api.IPusha, 0, 0, "v", 1, ""},
		{api.IPopa, 0, 0, "v", 1, ""},
		{api.IPushf, 0, 0, "v", 1, ""},
		{api.IPopf, 0, 0, "v", 1, ""},
		{api.ISahf, 0, 0, "b", 1, ""},
		{api.ILahf, 0, 0, "b", 1, ""},
		{api.ILeave, 0, 0, "v", 1, ""},
	}
}

func rowsOfOthers() []row {
	return []row{
		{api.IJcc, 0, 15, "v", 1, "Jb"},
		{api.IJcc, 0, 15, "v", 2, "Jv"},
		{api.IJmp, 0, 0, "v", 1, "Jb"},
		{api.IJmp, 0, 0, "v", 1, "Jv"},
		{api.IJmp, 0, 0, "v", 1, "Ev"},
		{api.ICall, 0, 0, "v", 1, "Jv"},
		{api.ICall, 0, 0, "v", 1, "Ev"},
		{api.IRet, 0, 0, "v", 1, "Iw"},
		{api.IRet, 0, 0, "v", 1, "=0"},
		{api.IIret, 0, 0, "v", 1, ""},
		{api.ILoop, 0, 3, "v", 1, "Jb"},
		{api.IFar, 0, 0, "v", 1, "F"},
		{api.IInt, 0, 0, "d", 1, "Ib"},
		{api.IInt, 1, 1, "d", 1, "=3"},
		{api.IInt, 2, 2, "d", 1, "=4"},
		{api.IIn, 0, 0, "b", 1, "Ab Ib"},
		{api.IIn, 0, 0, "v", 1, "Av Ib"},
		{api.IIn, 0, 0, "b", 1, "Ab DX"},
		{api.IIn, 0, 0, "v", 1, "Av DX"},
		{api.IOut, 0, 0, "b", 1, "Ib Ab"},
		{api.IOut, 0, 0, "v", 1, "Ib Av"},
		{api.IOut, 0, 0, "b", 1, "DX Ab"},
		{api.IOut, 0, 0, "v", 1, "DX Av"},
		{api.IFlag, 0, 6, "d", 1, ""},
		{api.IHlt, 0, 0, "d", 1, ""},
		{api.INop, 0, 0, "d", 1, ""},
		{api.IClts, 0, 0, "d", 2, ""},
		{api.ILtr, 0, 0, "w", 2, "Ew"},
		{api.ILgdt, 0, 0, "d", 2, "Md"},
		{api.ILidt, 0, 0, "d", 2, "Md"},
		{api.IInvlpg, 0, 0, "d", 2, "Md"},
		{api.IMovcr, 0, 0, "d", 2, "Rd C"},
		{api.IMovcr, 0, 0, "d", 2, "C Rd"},
	}
}

// fewest is how many bytes an instruction needs, by the table alone; 0: there are no bytes for it.
func fewest(all []row, x api.Inst) int {
	best := 0
	for _, r := range all {
		if n := r.takes(x); n > 0 && (best == 0 || n < best) {
			best = n
		}
	}
	return best
}

// takes is how many bytes the row needs for an instruction, 0 if it has none for it.
func (r row) takes(x api.Inst) int {
	if x.Op != r.op || x.Sub < r.first || x.Sub > r.last || !slices.Contains(sizes(r.size), x.Size) {
		return 0
	}
	if r.op == api.IXchg && r.operands == "rv Av" && x.A.Reg == 0 {
		return 0
	}
	n := r.code
	if r.size == "v" && x.Size == 2 {
		n++
	}
	switch {
	case x.Rep < 0 || x.Rep > 2 || x.Rep > 0 && x.Op != api.IString:
		return 0
	case x.Rep > 0:
		n++
	}
	words := strings.Fields(r.operands)
	if slices.ContainsFunc(words, func(w string) bool { return strings.Contains("EGMR", w[:1]) }) {
		n++
	}
	for i, o := range []api.Operand{x.A, x.B, x.C} {
		if i >= len(words) {
			if o != (api.Operand{}) {
				return 0
			}
			continue
		}
		more, ok := needs(words[i], x.Size, o)
		if !ok {
			return 0
		}
		n += more
	}
	return n
}

// sizes are those that a letter stands for.
func sizes(letter string) []int {
	switch letter {
	case "b":
		return []int{1}
	case "w":
		return []int{2}
	case "d":
		return []int{4}
	}
	return []int{2, 4}
}

// sizeOf is the size that a word's last letter says in an instruction of a size.
func sizeOf(word string, size int) int {
	switch word[len(word)-1] {
	case 'b':
		return 1
	case 'w':
		return 2
	case 'd':
		return 4
	}
	return size
}

// needs is how many bytes ahead of the opcode and behind ModRM an operand needs, and whether it is what the word says.
func needs(word string, size int, o api.Operand) (int, bool) {
	s := sizeOf(word, size)
	switch word[0] {
	case 'G', 'R', 'r':
		return 0, isRegister(o, s)
	case 'A':
		return 0, o == reg(0, s)
	case 'E':
		if isRegister(o, s) {
			return 0, true
		}
		return needsMemory(o), isMemory(o, s)
	case 'M':
		return needsMemory(o), isMemory(o, s)
	case 'O':
		return 4 + needsSegment(o), isMemory(o, s) && o.Base == -1 && o.Index == -1
	case 'X':
		return needsSegment(o), isMemory(o, s) && o.Base == -1 && o.Index == -1 && o.Disp == 0
	case 'S':
		return 0, o.Reg >= 0 && o.Reg <= 5 && strings.Contains(word, string(rune('0'+o.Reg))) && o == seg(o.Reg)
	}
	return needsOther(word, s, o)
}

func needsOther(word string, size int, o api.Operand) (int, bool) {
	n := int64(int32(o.Imm))
	switch word {
	case "CL":
		return 0, o == reg(1, 1)
	case "DX":
		return 0, o == reg(2, 2)
	case "C":
		return 0, (o.Reg == 0 || o.Reg == 2 || o.Reg == 3) && o == cr(o.Reg)
	case "=0", "=1", "=3", "=4":
		return 0, o == imm(uint32(word[1]-'0'))
	case "Ib", "Iw", "Iv":
		return size, o == imm(o.Imm) && uint64(o.Imm) < 1<<(8*size)
	case "Is":
		if size == 2 {
			n = int64(int16(o.Imm))
		}
		return 1, o == imm(o.Imm) && uint64(o.Imm) < 1<<(8*size) && n >= -128 && n <= 127
	case "Jb", "Jv":
		half := int64(1) << (8*size - 1)
		return size, o == rel(o.Imm) && n >= -half && n < half
	case "F":
		return size + 2, o == far(o.Imm, o.Disp) && uint64(o.Imm) < 1<<(8*size) && o.Disp < 1<<16
	}
	panic(word)
}

func isRegister(o api.Operand, size int) bool {
	return o.Reg >= 0 && o.Reg <= 7 && o == reg(o.Reg, size)
}

func isMemory(o api.Operand, size int) bool {
	if o.Seg < 0 || o.Seg > 5 || o.Base < -1 || o.Base > 7 || o.Index < -1 || o.Index > 7 || o.Index == 4 {
		return false
	}
	if !slices.Contains([]int{1, 2, 4, 8}, o.Scale) || o.Index == -1 && o.Scale != 1 {
		return false
	}
	return o == mem(size, o.Seg, o.Base, o.Index, o.Scale, o.Disp)
}

// needsSegment is 1, if the segment must be said.
func needsSegment(o api.Operand) int {
	if o.Seg == 3 && o.Base != 4 && o.Base != 5 || o.Seg == 2 && (o.Base == 4 || o.Base == 5) {
		return 0
	}
	return 1
}

func needsMemory(o api.Operand) int {
	n := needsSegment(o)
	if o.Index != -1 || o.Base == 4 {
		n++
	}
	switch d := int32(o.Disp); {
	case o.Base == -1:
		return n + 4
	case d == 0 && o.Base != 5:
		return n
	case d >= -128 && d <= 127:
		return n + 1
	}
	return n + 4
}

func reg(n, size int) api.Operand { return api.Operand{Kind: api.OReg, Reg: n, Size: size} }

func imm(n uint32) api.Operand { return api.Operand{Kind: api.OImm, Imm: n} }

func rel(n uint32) api.Operand { return api.Operand{Kind: api.ORel, Imm: n} }

func seg(n int) api.Operand { return api.Operand{Kind: api.OSeg, Reg: n} }

func cr(n int) api.Operand { return api.Operand{Kind: api.OCr, Reg: n} }

func far(n, selector uint32) api.Operand {
	return api.Operand{Kind: api.OFar, Imm: n, Disp: selector}
}

func mem(size, seg, base, index, scale int, disp uint32) api.Operand {
	return api.Operand{Kind: api.OMem, Size: size, Seg: seg, Base: base, Index: index, Scale: scale, Disp: disp}
}
