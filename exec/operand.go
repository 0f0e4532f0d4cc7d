package exec

import (
	"drawloom/api"
)

// secondByte is the register of size 1 that is the second byte of the register 0; behind it are those of the next ones.
const secondByte = 4

// place is where a value is read and written. Which place it is was found when it was made, and is not asked again, whatever is written.
type place struct {
	read  func() uint32
	check func() // a fault, if it may not be written
	write func(v uint32)
}

// before is the value of a place that is perhaps written behind that: then a fault of writing comes ahead of all else.
func (p place) before(written bool) uint32 {
	if written {
		p.check()
	}
	return p.read()
}

func (d *doing) a() place { return d.placeOf(d.x.A) }

func (d *doing) b() place { return d.placeOf(d.x.B) }

func (d *doing) c() place { return d.placeOf(d.x.C) }

// placeOf is an operand's place; where there is no operand, it is the number 0.
func (d *doing) placeOf(o api.Operand) place {
	switch o.Kind {
	case api.OReg:
		return d.register(o.Reg, o.Size)
	case api.OMem:
		return d.memory(o.Seg, d.offset(o), o.Size)
	case api.OSeg:
		return d.segment(o.Reg)
	case api.OCr:
		return d.control(o.Reg)
	}
	return number(o.Imm)
}

func nothing() {}

// number is a place that cannot be written: no bytes mean an instruction that would.
func number(n uint32) place {
	return place{
		read:  func() uint32 { return n },
		check: nothing,
		write: func(uint32) { panic(undefined()) },
	}
}

func (d *doing) register(n, size int) place {
	low := 0
	if size == 1 && n >= secondByte {
		n, low = n-secondByte, 8
	}
	r, mask := &d.cpu.R[n], cut(size, 0xFFFFFFFF)<<low
	return place{
		read:  func() uint32 { return *r & mask >> low },
		check: nothing,
		write: func(v uint32) { *r = *r&^mask | v<<low&mask },
	}
}

func (d *doing) memory(seg int, off uint32, size int) place {
	m := d.env.Mem
	return place{
		read: func() uint32 {
			v, f := m.Load(d.cpu, seg, off, size)
			raise(f)
			return v
		},
		check: func() { raise(m.Check(d.cpu, seg, off, size)) },
		write: func(v uint32) { raise(m.Store(d.cpu, seg, off, size, v)) },
	}
}

func (d *doing) segment(n int) place {
	return place{
		read:  func() uint32 { return uint32(d.cpu.Seg[n].Sel) },
		check: nothing,
		write: func(v uint32) { load(d.env, n, uint16(v)) },
	}
}

// offset is where an operand lies in its segment.
func (d *doing) offset(o api.Operand) uint32 {
	return d.part(o.Base) + d.part(o.Index)*uint32(o.Scale) + o.Disp
}

// part is what a register adds to an offset: nothing, if there is none.
func (d *doing) part(n int) uint32 {
	if n < 0 {
		return 0
	}
	return d.cpu.R[n]
}

// lower and upper are a value of two sizes: AL and AH, or what the document calls A and D.
func (d *doing) lower() place { return d.register(api.Eax, d.x.Size) }

func (d *doing) upper() place {
	if d.x.Size == 1 {
		return d.register(secondByte, 1)
	}
	return d.register(api.Edx, d.x.Size)
}

func cut(size int, v uint32) uint32 {
	spare := 32 - 8*size
	return v << spare >> spare
}

// signed is a value of a size with its sign in all bits above.
func signed(size int, v uint32) int32 {
	spare := 32 - 8*size
	return int32(v<<spare) >> spare
}
