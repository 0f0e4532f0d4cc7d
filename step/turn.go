package step

import (
	"drawloom/api"
	"drawloom/except"
	"drawloom/exec"
)

// turn is a processor's turn to do a step. What kind of step it is hangs on what the processor and the bus are ahead of it; each kind has a method, that does it and tells what it was.
type turn struct{ *exec.Env }

func (t turn) kind() func(turn) int {
	switch {
	case t.Cpu.Dead:
		return turn.nothing
	case t.interrupted():
		return turn.interrupt
	case t.Cpu.Halted:
		return turn.wait
	}
	return turn.instruct
}

func (t turn) interrupted() bool {
	return t.Bus.Pending() && t.Cpu.Flags&api.IF != 0 && !t.Cpu.Shadow
}

func (t turn) nothing() int { return api.SDead }

func (t turn) interrupt() int {
	// Where there is no fault nothing is delivered.
	except.Fault(t.Env, except.Enter(t.Env, t.Bus.Ack(), -1, false))
	t.Bus.Tick(1)
	return api.SInt
}

func (t turn) wait() int {
	t.Bus.Tick(1)
	return api.SWait
}

func (t turn) instruct() int {
	x, _, f := Fetch(t.Env)
	if f.Vec >= 0 {
		return failed(t.Env, f)
	}
	return Finish(t.Env, x)
}
