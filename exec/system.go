package exec

import (
	"drawloom/api"
)

// needIo ends what a ring above IOPL may not do, needInner what only the ring 0 may.
func (d *doing) needIo() {
	if ringOf(d.cpu) > ioplOf(d.cpu) {
		panic(protection())
	}
}

func (d *doing) needInner() {
	if ringOf(d.cpu) != 0 {
		panic(protection())
	}
}

func (d *doing) takeIn() {
	d.needIo()
	v, err := d.env.Bus.In(uint16(d.b().read()), d.x.Size)
	need(err)
	d.a().write(v)
}

func (d *doing) putOut() {
	d.needIo()
	port := uint16(d.a().read())
	need(d.env.Bus.Out(port, d.x.Size, d.b().read()))
}

func (d *doing) flag() {
	flags := &d.cpu.Flags
	switch d.x.Sub {
	case 0:
		*flags &^= api.CF
	case 1:
		*flags |= api.CF
	case 2:
		*flags ^= api.CF
	case 3:
		*flags &^= api.DF
	case 4:
		*flags |= api.DF
	case 5:
		d.needIo()
		*flags &^= api.IF
	case 6:
		d.needIo()
		d.cpu.Shadow = *flags&api.IF == 0
		*flags |= api.IF
	}
}

func (d *doing) halt() {
	d.needInner()
	d.cpu.Halted = true
}

func (d *doing) clearTask() {
	d.needInner()
	d.cpu.Cr0 &^= api.TSF
}

// loadTable loads where a table lies out of six bytes.
func (d *doing) loadTable(t *api.Table) {
	d.needInner()
	seg, off := d.x.A.Seg, d.offset(d.x.A)
	limit := d.memory(seg, off, 2).read()
	base := d.memory(seg, off+2, 4).read()
	*t = api.Table{Base: base, Limit: uint16(limit)}
}

// freeTask is the type of a task that is not running.
const freeTask = 9

func (d *doing) loadTask() {
	d.needInner()
	sel := uint16(d.a().read())
	if isNull(sel) {
		panic(protection())
	}
	desc := find(d.env, sel)
	if !desc.System || desc.Type != freeTask {
		panic(fault(api.GP, codeOf(sel)))
	}
	if !desc.Present {
		panic(fault(api.NP, codeOf(sel)))
	}
	d.cpu.Tr = api.SegReg{Sel: sel, D: desc}
}

func (d *doing) moveControl() {
	d.needInner()
	d.a().write(d.b().read())
}

// control is a control register. What says where pages are makes those that were found void.
func (d *doing) control(n int) place {
	r, flush := &d.cpu.Cr0, d.env.Mem.Flush
	switch n {
	case 2:
		r, flush = &d.cpu.Cr2, nothing
	case 3:
		r = &d.cpu.Cr3
	}
	return place{
		read:  func() uint32 { return *r },
		check: nothing,
		write: func(v uint32) {
			if n == 0 && v&api.PE == 0 {
				panic(protection())
			}
			*r = v
			flush()
		},
	}
}

func (d *doing) dropPage() {
	d.needInner()
	d.env.Mem.Drop(d.cpu.Seg[d.x.A.Seg].D.Base + d.offset(d.x.A))
}
