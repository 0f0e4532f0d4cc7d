package except

import (
	"drawloom/api"
	"drawloom/exec"
	"drawloom/segment"
)

// What a selector's lowest bits say.
const (
	ringBits = 3
	local    = 4 // of another table, which there is not
	inEntry  = 7 // the bits that do not tell its entry
)

const wordSize = 4

// turn is a processor's turn to other code. The processor itself is only looked at, what becomes of it is then: so a fault leaves it as it was.
type turn struct {
	env  *exec.Env
	then api.Cpu
}

// attempt does what may end with a fault, and tells it.
func attempt(e *exec.Env, do func(t *turn)) (f api.Fault) {
	if lacks(e) {
		return protection()
	}
	t := &turn{env: e, then: e.Cpu}
	f = api.None()
	defer func() {
		if what := recover(); what != nil {
			f = what.(api.Fault)
		}
	}()
	do(t)
	e.Cpu = t.then
	return f
}

func (t *turn) was() *api.Cpu { return &t.env.Cpu }

func (t *turn) ring() int { return ringOf(t.was().Seg[api.Cs].Sel) }

// own reads a value for the processor itself.
func (t *turn) own(lin uint32, size int) uint32 {
	v, f := t.env.Mem.Sys(t.was(), lin, size)
	raise(f)
	return v
}

// find is a selector's descriptor. The vector and the code are those of the fault, if it is null, or not there.
func (t *turn) find(sel uint16, vector, code int) api.Desc {
	if isNull(sel) || sel&local != 0 || sel|inEntry > t.was().Gdt.Limit {
		panic(fault(vector, code))
	}
	d, f := exec.Find(t.env, sel)
	raise(f)
	return d
}

// stack is a ring's stack segment. The vector is that of the fault, if it can't be one; that it is not present has its own.
func (t *turn) stack(sel uint16, ring, vector, code int) api.SegReg {
	d := t.find(sel, vector, code)
	switch segment.Fit(api.Ss, sel, d, ring) {
	case api.GP:
		panic(fault(vector, code))
	case api.SSV:
		panic(fault(api.SSV, code))
	}
	return api.SegReg{Sel: sel, D: d}
}

func ringOf(sel uint16) int { return int(sel & ringBits) }

// codeOf is the code of a fault that a selector is to blame for: of a null one it is 0.
func codeOf(sel uint16) int { return int(sel &^ ringBits) }

func isNull(sel uint16) bool { return codeOf(sel) == 0 }
