package exec

import (
	"drawloom/api"
	"drawloom/segment"
)

// What a selector's lowest bits say.
const (
	ringBits = 3
	local    = 4 // of another table, which there is not
	inEntry  = 7 // the bits that do not tell its entry
)

const wordSize = 4

func ringOf(c *api.Cpu) int { return int(c.Seg[api.Cs].Sel & ringBits) }

func ioplOf(c *api.Cpu) int { return int(c.Flags & api.IOPL >> 12) }

// codeOf is the code of a fault that a selector is to blame for.
func codeOf(sel uint16) int { return int(sel &^ ringBits) }

func isNull(sel uint16) bool { return codeOf(sel) == 0 }

// find is what Find tells; its fault is panicked with, as all are from here on.
func find(e *Env, sel uint16) api.Desc {
	if sel&local != 0 || sel|inEntry > e.Cpu.Gdt.Limit {
		panic(fault(api.GP, codeOf(sel)))
	}
	at := e.Cpu.Gdt.Base + uint32(sel&^inEntry)
	lo, f := e.Mem.Sys(&e.Cpu, at, wordSize)
	raise(f)
	hi, f := e.Mem.Sys(&e.Cpu, at+wordSize, wordSize)
	raise(f)
	return segment.Parse(lo, hi)
}

// load is what Load does. The register is written last, so that a fault leaves it.
func load(e *Env, seg int, sel uint16) {
	if seg < 0 || seg >= len(e.Cpu.Seg) || seg == api.Cs {
		panic(protection())
	}
	if isNull(sel) {
		loadNull(e, seg, sel)
		return
	}
	desc := find(e, sel)
	if vector := segment.Fit(seg, sel, desc, ringOf(&e.Cpu)); vector >= 0 {
		panic(fault(vector, codeOf(sel)))
	}
	e.Cpu.Seg[seg] = api.SegReg{Sel: sel, D: desc}
	if seg == api.Ss {
		// The stack's place comes with the next instruction: no interrupt may push between.
		e.Cpu.Shadow = true
	}
}

func loadNull(e *Env, seg int, sel uint16) {
	if seg == api.Ss {
		panic(protection())
	}
	e.Cpu.Seg[seg] = api.SegReg{Sel: sel, Null: true}
}
