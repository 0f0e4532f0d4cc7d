package exec

import (
	"drawloom/api"
	"drawloom/bitop"
)

func (d *doing) widen() {
	half := d.x.Size / 2
	v, err := bitop.Extend(true, half, d.x.Size, d.register(api.Eax, half).read())
	need(err)
	d.lower().write(v)
}

func (d *doing) spreadSign() {
	sign := signed(d.x.Size, d.lower().read()) >> 31
	d.upper().write(uint32(sign))
}

func (d *doing) bit() {
	writes := d.x.Sub != api.Bt
	a, n := d.bitPlace(), d.b().read()
	result, flags, err := bitop.Bit(d.x.Sub, d.x.Size, a.before(writes), n, d.cpu.Flags)
	need(err)
	if writes {
		a.write(result)
	}
	d.cpu.Flags = flags
}

// bitPlace is the value that the bit lies in. A register's number may lead far from memory's operand, on both sides of it.
func (d *doing) bitPlace() place {
	a, size := d.x.A, d.x.Size
	if a.Kind != api.OMem || d.x.B.Kind != api.OReg {
		return d.a()
	}
	// 3 and half the size is the power of 2 that the size's bits are; a shift by it rounds down, also below 0.
	away := signed(size, d.b().read()) >> (3 + size/2)
	return d.memory(a.Seg, d.offset(a)+uint32(size)*uint32(away), size)
}

func (d *doing) scan() {
	up := d.x.Sub == 0
	n, found, flags, err := bitop.Scan(up, d.x.Size, d.b().read(), d.cpu.Flags)
	need(err)
	if found {
		d.a().write(n)
	}
	d.cpu.Flags = flags
}

// holds tells whether the condition holds that the instruction asks for.
func (d *doing) holds() bool {
	is, err := bitop.Cond(d.x.Sub, d.cpu.Flags)
	need(err)
	return is
}

func (d *doing) set() {
	v := uint32(0)
	if d.holds() {
		v = 1
	}
	d.a().write(v)
}

// moveIf reads also where it does not move: what may not be read is a fault all the same.
func (d *doing) moveIf() {
	v := d.b().read()
	if d.holds() {
		d.a().write(v)
	}
}
