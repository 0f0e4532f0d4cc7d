package exec

import (
	"drawloom/alu"
	"drawloom/api"
	"drawloom/bitop"
)

func (d *doing) moveWider() {
	v, err := bitop.Extend(d.x.Sub == 1, d.x.B.Size, d.x.Size, d.b().read())
	need(err)
	d.a().write(v)
}

func (d *doing) exchange() {
	a, b := d.a(), d.b()
	was := a.before(true)
	other := b.read()
	a.write(other)
	b.write(was)
}

func (d *doing) repeat() {
	left := &d.cpu.R[api.Ecx]
	repeated := d.x.Rep != 0
	if repeated && *left == 0 {
		return
	}
	d.round()
	if !repeated {
		return
	}
	*left--
	if *left != 0 && d.goesOn() {
		d.cpu.Eip = d.at
	}
}

// goesOn tells whether what was found lets a repeated instruction go on: those that compare nothing always do.
func (d *doing) goesOn() bool {
	compares := d.x.Sub == 1 || d.x.Sub == 4
	equal := d.cpu.Flags&api.ZF != 0
	return !compares || equal == (d.x.Rep == api.Rep)
}

// round is one round of a string.
func (d *doing) round() {
	size, source, target := d.x.Size, &d.cpu.R[api.Esi], &d.cpu.R[api.Edi]
	from := d.memory(d.x.A.Seg, *source, size)
	to := d.memory(api.Es, *target, size)
	switch d.x.Sub {
	case 0:
		to.write(from.read())
	case 1:
		d.compare(from, to)
	case 2:
		to.write(d.lower().read())
	case 3:
		d.lower().write(from.read())
	case 4:
		d.compare(d.lower(), to)
	}
	step := uint32(size)
	if d.cpu.Flags&api.DF != 0 {
		step = -step
	}
	if d.x.Sub != 2 && d.x.Sub != 4 {
		*source += step
	}
	if d.x.Sub != 3 {
		*target += step
	}
}

func (d *doing) compare(a, b place) {
	left := a.read()
	right := b.read()
	_, flags, err := alu.Do(api.Cmp, d.x.Size, left, right, d.cpu.Flags)
	need(err)
	d.cpu.Flags = flags
}
