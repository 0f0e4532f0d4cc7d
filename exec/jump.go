package exec

import (
	"drawloom/api"
	"drawloom/segment"
)

// target is the place that an instruction names: behind it and a displacement, or what an operand tells.
func (d *doing) target() uint32 {
	if d.x.A.Kind == api.ORel {
		return d.cpu.Eip + d.x.A.Imm
	}
	return d.a().read()
}

// inCode is a place as it is jumped to; a fault, if it is not in the code segment.
func (d *doing) inCode(to uint32) uint32 {
	to = cut(d.x.Size, to)
	if to > d.cpu.Seg[api.Cs].D.Limit {
		panic(protection())
	}
	return to
}

func (d *doing) jump(to uint32) { d.cpu.Eip = d.inCode(to) }

func (d *doing) jumpIf(holds bool) {
	if holds {
		d.jump(d.target())
	}
}

func (d *doing) call() {
	to := d.inCode(d.target())
	d.push(d.cpu.Eip)
	d.cpu.Eip = to
}

func (d *doing) comeBack() {
	to := d.pop()
	d.cpu.R[api.Esp] += d.x.A.Imm
	d.jump(to)
}

func (d *doing) loop() {
	left := &d.cpu.R[api.Ecx]
	if d.x.Sub != 3 {
		*left--
	}
	zero := d.cpu.Flags&api.ZF != 0
	switch d.x.Sub {
	case 0:
		d.jumpIf(*left != 0 && !zero)
	case 1:
		d.jumpIf(*left != 0 && zero)
	case 2:
		d.jumpIf(*left != 0)
	case 3:
		d.jumpIf(*left == 0)
	}
}

func (d *doing) interrupt() {
	if d.x.Sub == 2 && d.cpu.Flags&api.OF == 0 {
		return
	}
	d.out.Soft = int(d.x.A.Imm)
}

func (d *doing) jumpFar() {
	sel, to, ring := uint16(d.x.A.Disp), d.x.A.Imm, ringOf(d.cpu)
	if isNull(sel) {
		panic(protection())
	}
	desc := find(d.env, sel)
	if vector := segment.Code(sel, desc, ring); vector >= 0 {
		panic(fault(vector, codeOf(sel)))
	}
	if to > desc.Limit {
		panic(protection())
	}
	d.cpu.Seg[api.Cs] = api.SegReg{Sel: sel&^ringBits | uint16(ring), D: desc}
	d.cpu.Eip = to
}
