package except

import (
	"drawloom/api"
)

// class is what counts of a fault where it is joined with another one.
type class int

const (
	ordinary class = iota
	contributing
	paging
)

// classes are the vectors' classes; those that are not among them, and behind them, are ordinary.
var classes = [...]class{
	api.DE:  contributing,
	api.TS:  contributing,
	api.NP:  contributing,
	api.SSV: contributing,
	api.GP:  contributing,
	api.PFV: paging,
}

func classOf(vector int) class {
	if vector < 0 || vector >= len(classes) {
		return ordinary
	}
	return classes[vector]
}

// joined is what is delivered next, where the delivery of the first fault ended with the second one.
func joined(first, second api.Fault) api.Fault {
	with := classOf(second.Vec)
	switch classOf(first.Vec) {
	case paging:
		if with == paging {
			return double()
		}
		fallthrough
	case contributing:
		if with == contributing {
			return double()
		}
	}
	return second
}

// raise ends a call, if there is a fault. Deep code panics with a fault, so that nothing behind it is done.
func raise(f api.Fault) {
	if f != api.None() {
		panic(f)
	}
}

func fault(vector, code int) api.Fault { return api.Fault{Vec: vector, Code: code} }

func double() api.Fault { return fault(api.DFV, 0) }

func protection() api.Fault { return fault(api.GP, 0) }
