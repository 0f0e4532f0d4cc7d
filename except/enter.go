package except

import (
	"drawloom/api"
	"drawloom/segment"
)

const mostVectors = 256

// Kinds of gates: behind a closing one no interrupt comes.
const (
	closing = 14
	open    = 15
)

// conforming is the bit of a code segment's type that lets it run in the ring that it is called from.
const conforming = 4

// gate is what a vector leads through.
type gate struct {
	sel     uint16
	place   uint32
	kind    int
	ring    int
	present bool
}

func (t *turn) enter(vec, code int, soft bool) {
	if vec < 0 || vec >= mostVectors {
		panic(protection())
	}
	outside := 1
	if soft {
		outside = 0
	}
	g := t.gate(vec, soft, 8*vec+2+outside)
	d := t.handler(g, outside)
	ring := t.ring()
	inner := d.Type&conforming == 0 && d.Dpl < ring
	if inner {
		ring = d.Dpl
		t.takeStack(ring, outside)
	}
	// What is pushed is pushed by the ring that is then.
	t.then.Seg[api.Cs] = api.SegReg{Sel: g.sel&^ringBits | uint16(ring), D: d}
	t.pushAll(inner, code)
	t.then.Eip = g.place
	t.then.Flags &^= api.TF | api.NT
	if g.kind == closing {
		t.then.Flags &^= api.IF
	}
	t.then.Shadow, t.then.Halted = false, false
}

// gate is a vector's gate, if it may be gone through; code is the code of its faults.
func (t *turn) gate(vec int, soft bool, code int) gate {
	table := t.was().Idt
	if 8*vec+7 > int(table.Limit) {
		panic(fault(api.GP, code))
	}
	at := table.Base + 8*uint32(vec)
	lo := t.own(at, wordSize)
	hi := t.own(at+wordSize, wordSize)
	g := gate{
		sel:     uint16(lo >> 16),
		place:   hi&0xFFFF0000 | lo&0xFFFF,
		kind:    int(hi >> 8 & 31),
		ring:    int(hi >> 13 & 3),
		present: hi>>15&1 != 0,
	}
	if g.kind != closing && g.kind != open || soft && g.ring < t.ring() {
		panic(fault(api.GP, code))
	}
	if !g.present {
		panic(fault(api.NP, code))
	}
	return g
}

// handler is the code that a gate leads to.
func (t *turn) handler(g gate, outside int) api.Desc {
	code := codeOf(g.sel) + outside
	d := t.find(g.sel, api.GP, code)
	// What a gate's selector asks for does not count, and a gate leads further in, where a jump does not: there the code is held against its own ring.
	if vector := segment.Code(g.sel&^ringBits, d, min(d.Dpl, t.ring())); vector >= 0 {
		panic(fault(vector, code))
	}
	if g.place > d.Limit {
		panic(fault(api.GP, outside))
	}
	return d
}

// takeStack makes the stack that of an inner ring, as the task tells it.
func (t *turn) takeStack(ring, outside int) {
	task, at := t.was().Tr, 4+8*uint32(ring)
	if at+7 > task.D.Limit {
		panic(fault(api.TS, codeOf(task.Sel)+outside))
	}
	esp := t.own(task.D.Base+at, wordSize)
	sel := uint16(t.own(task.D.Base+at+wordSize, 2))
	t.then.Seg[api.Ss] = t.stack(sel, ring, api.TS, codeOf(sel)+outside)
	t.then.R[api.Esp] = esp
}

func (t *turn) pushAll(inner bool, code int) {
	was := t.was()
	if inner {
		t.push(uint32(was.Seg[api.Ss].Sel))
		t.push(was.R[api.Esp])
	}
	t.push(was.Flags)
	t.push(uint32(was.Seg[api.Cs].Sel))
	t.push(was.Eip)
	if code >= 0 {
		t.push(uint32(code))
	}
}

func (t *turn) push(v uint32) {
	to := t.then.R[api.Esp] - wordSize
	raise(t.env.Mem.Store(&t.then, api.Ss, to, wordSize, v))
	t.then.R[api.Esp] = to
}
