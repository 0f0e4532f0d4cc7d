package exec

import (
	"drawloom/alu"
	"drawloom/api"
	"drawloom/muldiv"
	"drawloom/shift"
)

func (d *doing) sum() {
	writes := d.x.Sub != api.Cmp && d.x.Sub != api.Test
	a := d.a()
	was := a.before(writes)
	with := d.b().read()
	result, flags, err := alu.Do(d.x.Sub, d.x.Size, was, with, d.cpu.Flags)
	need(err)
	if writes {
		a.write(result)
	}
	d.cpu.Flags = flags
}

func (d *doing) shift() {
	a := d.a()
	was := a.before(true)
	count := d.b().read()
	result, flags, err := shift.Do(d.x.Sub, d.x.Size, was, count, d.cpu.Flags)
	need(err)
	a.write(result)
	d.cpu.Flags = flags
}

func (d *doing) shiftDouble() {
	a := d.a()
	was := a.before(true)
	with := d.b().read()
	count := d.c().read()
	result, flags, err := shift.Double(d.x.Sub == 0, d.x.Size, was, with, count, d.cpu.Flags)
	need(err)
	a.write(result)
	d.cpu.Flags = flags
}

func (d *doing) multiply() {
	by := d.a().read()
	lo, hi, flags, err := muldiv.Mul(d.x.Sub == 1, d.x.Size, d.lower().read(), by, d.cpu.Flags)
	need(err)
	d.lower().write(lo)
	d.upper().write(hi)
	d.cpu.Flags = flags
}

func (d *doing) multiplyShort() {
	a, by := d.a(), d.c()
	if d.x.C.Kind == 0 {
		by = a
	}
	n := d.b().read()
	lo, _, flags, err := muldiv.Mul(true, d.x.Size, n, by.read(), d.cpu.Flags)
	need(err)
	a.write(lo)
	d.cpu.Flags = flags
}

func (d *doing) divide() {
	by := d.a().read()
	q, left, ok, err := muldiv.Div(d.x.Sub == 1, d.x.Size, d.lower().read(), d.upper().read(), by)
	need(err)
	if !ok {
		panic(indivisible())
	}
	d.lower().write(q)
	d.upper().write(left)
}

func (d *doing) adjust() {
	al, ah := d.register(api.Eax, 1), d.register(secondByte, 1)
	x, y, flags, ok, err := muldiv.Adjust(d.x.Sub, al.read(), ah.read(), d.x.A.Imm, d.cpu.Flags)
	need(err)
	if !ok {
		panic(indivisible())
	}
	al.write(x)
	ah.write(y)
	d.cpu.Flags = flags
}
