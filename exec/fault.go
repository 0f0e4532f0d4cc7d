package exec

import (
	"drawloom/api"
)

// noCode is the code of a fault that has none.
const noCode = -1

// faultOf does what may end with a fault, and tells it. Deep code panics with a fault, so that nothing behind it is done.
func faultOf(do func()) (f api.Fault) {
	f = api.None()
	defer func() {
		if what := recover(); what != nil {
			f = toldBy(what)
		}
	}()
	do()
	return f
}

// toldBy is the fault that was panicked with. Nothing else is, but by an instruction that no bytes mean, with a register that is none, say: it is taken as none.
func toldBy(what any) api.Fault {
	if f, is := what.(api.Fault); is {
		return f
	}
	return undefined()
}

// raise ends the instruction, if there is a fault.
func raise(f api.Fault) {
	if f != api.None() {
		panic(f)
	}
}

// need ends an instruction that a lower layer knows nothing of: no bytes mean it.
func need(err api.Errno) {
	if err != api.OK {
		panic(undefined())
	}
}

func fault(vector, code int) api.Fault { return api.Fault{Vec: vector, Code: code} }

func protection() api.Fault { return fault(api.GP, 0) }

func undefined() api.Fault { return fault(api.UD, noCode) }

func indivisible() api.Fault { return fault(api.DE, noCode) }
