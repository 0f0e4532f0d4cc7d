package exec

import (
	"drawloom/api"
)

// push and pop are of the instruction's size. ESP is changed last, so that what is pushed from it is as it was.
func (d *doing) push(v uint32) {
	size := d.x.Size
	to := d.cpu.R[api.Esp] - uint32(size)
	d.memory(api.Ss, to, size).write(v)
	d.cpu.R[api.Esp] = to
}

func (d *doing) pop() uint32 {
	size, esp := d.x.Size, &d.cpu.R[api.Esp]
	v := d.memory(api.Ss, *esp, size).read()
	*esp += uint32(size)
	return v
}

// popOperand asks where the operand is only when ESP is changed.
func (d *doing) popOperand() {
	v := d.pop()
	d.a().write(v)
}

func (d *doing) pushAll() {
	all := d.cpu.R
	for _, v := range all {
		d.push(v)
	}
}

func (d *doing) popAll() {
	for n := api.Edi; n >= api.Eax; n-- {
		v := d.pop()
		if n != api.Esp {
			d.register(n, d.x.Size).write(v)
		}
	}
}

// inAh are the flags that AH tells.
const inAh = api.CF | api.PF | api.AF | api.ZF | api.SF

func (d *doing) flagsFromAh() {
	d.setFlags(inAh, d.register(secondByte, 1).read())
}

func (d *doing) flagsIntoAh() {
	d.register(secondByte, 1).write(d.cpu.Flags&inAh | api.One)
}

func (d *doing) popFlags() {
	named := uint32(inAh | api.TF | api.DF | api.OF | api.NT)
	if ringOf(d.cpu) <= ioplOf(d.cpu) {
		named |= api.IF
	}
	if ringOf(d.cpu) == 0 {
		named |= api.IOPL
	}
	d.setFlags(named, d.pop())
}

// setFlags makes those that are named as they are in a word.
func (d *doing) setFlags(named, word uint32) {
	d.cpu.Flags = d.cpu.Flags&^named | word&named | api.One
}

func (d *doing) leave() {
	d.cpu.R[api.Esp] = d.cpu.R[api.Ebp]
	v := d.pop()
	d.register(api.Ebp, d.x.Size).write(v)
}
