package decode

import (
	"drawloom/api"
)

// part takes an operand's bytes. Their names are the document's letters; size is the instruction's, and holds where the letters say no other one.
type part func(f *form, size int) api.Operand

func register(r, size int) api.Operand {
	return api.Operand{Kind: api.OReg, Reg: r, Size: size}
}

func number(n uint32) api.Operand {
	return api.Operand{Kind: api.OImm, Imm: n}
}

func segment(r int) part {
	return func(*form, int) api.Operand { return api.Operand{Kind: api.OSeg, Reg: r} }
}

func constant(n uint32) part {
	return func(*form, int) api.Operand { return number(n) }
}

func partA(_ *form, size int) api.Operand { return register(api.Eax, size) }

func partCL(*form, int) api.Operand { return register(api.Ecx, 1) }

func partDX(*form, int) api.Operand { return register(api.Edx, 2) }

func partR(f *form, size int) api.Operand { return register(f.r(), size) }

func partG(f *form, size int) api.Operand { return register(f.modrm().n, size) }

func partRm(f *form, size int) api.Operand { return register(f.modrm().rm, size) }

func partCr(f *form, _ int) api.Operand {
	return api.Operand{Kind: api.OCr, Reg: f.modrm().n}
}

func partE(f *form, size int) api.Operand {
	m := f.modrm()
	if m.mod == 3 {
		return register(m.rm, size)
	}
	o := f.memory(size)
	o.Base = m.rm
	if m.rm == 4 {
		o.Base, o.Index, o.Scale = f.sib()
	}
	switch {
	case m.mod == 0 && o.Base == 5:
		o.Base = none
		o.Disp = f.bytes(4)
	case m.mod == 1:
		o.Disp = signed(1, f.bytes(1))
	case m.mod == 2:
		o.Disp = f.bytes(4)
	}
	if f.seg == none && (o.Base == api.Esp || o.Base == api.Ebp) {
		o.Seg = api.Ss
	}
	return o
}

func partEb(f *form, _ int) api.Operand { return partE(f, 1) }

func partEw(f *form, _ int) api.Operand { return partE(f, 2) }

func partI(f *form, size int) api.Operand { return number(f.bytes(size)) }

func partIb(f *form, _ int) api.Operand { return number(f.bytes(1)) }

func partIw(f *form, _ int) api.Operand { return number(f.bytes(2)) }

func partIs(f *form, size int) api.Operand { return number(cut(size, signed(1, f.bytes(1)))) }

func partJ(f *form, size int) api.Operand {
	return api.Operand{Kind: api.ORel, Imm: signed(size, f.bytes(size))}
}

func partJb(f *form, _ int) api.Operand { return partJ(f, 1) }

func partFar(f *form, size int) api.Operand {
	offset := f.bytes(size)
	return api.Operand{Kind: api.OFar, Imm: offset, Disp: f.bytes(2)}
}

func partO(f *form, size int) api.Operand {
	o := f.memory(size)
	o.Disp = f.bytes(4)
	return o
}

// partString is the memory of a string whose segment can be chosen.
func partString(f *form, size int) api.Operand { return f.memory(size) }

// memory is memory without base and index.
func (f *form) memory(size int) api.Operand {
	seg := f.seg
	if seg == none {
		seg = api.Ds
	}
	return api.Operand{Kind: api.OMem, Size: size, Seg: seg, Base: none, Index: none, Scale: 1}
}

func (f *form) sib() (base, index, scale int) {
	b := f.take()
	base, index, scale = b&7, b>>3&7, 1<<(b>>6)
	if index == 4 {
		return base, none, 1
	}
	return base, index, scale
}

// bytes is so many of them as a number, the lowest one first.
func (f *form) bytes(size int) uint32 {
	n := uint32(0)
	for i := range size {
		n |= uint32(f.take()) << (8 * i)
	}
	return n
}

func signed(size int, n uint32) uint32 {
	above := 32 - 8*size
	return uint32(int32(n<<above) >> above)
}

func cut(size int, n uint32) uint32 {
	above := 32 - 8*size
	return n << above >> above
}
