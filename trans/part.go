package trans

import (
	"drawloom/api"
	"drawloom/exec"
	"drawloom/step"
)

// part is an instruction of a block, translated: it does the step that comes, whatever that is.
type part func(e *exec.Env)

// translated is the part of an instruction that is known by its bytes: while these stand at the processor's place it is done without being read anew.
func translated(x api.Inst, bytes []byte) part {
	return func(e *exec.Env) {
		if e.Cpu.Halted || interrupted(e) || !stand(e, bytes) {
			step.Step(e)
			return
		}
		step.Finish(e, x)
	}
}

// untranslated is the part of an instruction that is read anew each time.
func untranslated(e *exec.Env) { step.Step(e) }

// interrupted is whether an interrupt may come ahead of the instruction.
func interrupted(e *exec.Env) bool { return e.Cpu.Flags&api.IF != 0 && e.Bus.Pending() }

// stand is whether these bytes are the ones at the processor's place. Asking for them marks what fetching them marks, and nothing more: up to the first one that is another one, fetching needs them, too.
func stand(e *exec.Env, bytes []byte) bool {
	if overPages(e, len(bytes)) {
		return false
	}
	for n, b := range bytes {
		v, _, f := e.Mem.Code(&e.Cpu, e.Cpu.Eip+uint32(n))
		if f.Vec >= 0 || v != b {
			return false
		}
	}
	return true
}

// overPages is whether so many bytes at the processor's place lie in two pages. Such ones may be asked for once alone: the second page's mark may change a byte in the first one, if a table lies there.
func overPages(e *exec.Env, n int) bool {
	return pageOf(e, e.Cpu.Eip) != pageOf(e, e.Cpu.Eip+uint32(n-1))
}

// pageOf is the linear page of a byte of code.
func pageOf(e *exec.Env, off uint32) uint32 {
	return (e.Cpu.Seg[api.Cs].D.Base + off) / api.PageSize
}
