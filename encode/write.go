package encode

import (
	"math/bits"
	"slices"

	"drawloom/api"
)

const (
	none  = -1     // no register, no opcode
	wider = 0x0F   // the first byte of an opcode of two
	two   = 0x0F00 // what forms add to the second one
)

// form is a line of decode's table that an instruction may be written by.
type form struct {
	code   int
	modrm  bool
	n      int         // ModRM's bits 3 to 5
	e      api.Operand // what the rest of ModRM stands for
	behind []byte      // the numbers at the end
}

// alone is a form without ModRM.
func alone(code int, behind ...byte) form {
	return form{code: code, behind: behind}
}

// with is a form with ModRM.
func with(code, n int, e api.Operand, behind ...byte) form {
	return form{code: code, modrm: true, n: n, e: e, behind: behind}
}

// bodiesOf are an instruction's bytes without prefixes, as each of its forms has them.
func bodiesOf(x api.Inst) [][]byte {
	var all [][]byte
	for _, f := range forms(x) {
		all = append(all, f.bodies()...)
	}
	return all
}

func (f form) bodies() [][]byte {
	code := f.opcode()
	if !f.modrm {
		return [][]byte{slices.Concat(code, f.behind)}
	}
	var all [][]byte
	for _, p := range places(f.e) {
		p[0] |= fields(0, f.n, 0)
		all = append(all, slices.Concat(code, p, f.behind))
	}
	return all
}

func (f form) opcode() []byte {
	if f.code>>8 == wider {
		return []byte{wider, byte(f.code)}
	}
	return []byte{byte(f.code)}
}

// places are the ways to say E: ModRM, its bits 3 to 5 being nought, and what stands behind it.
func places(e api.Operand) [][]byte {
	switch {
	case e.Kind == api.OReg:
		return [][]byte{{fields(3, 0, e.Reg)}}
	case e.Kind != api.OMem:
		return nil
	case e.Base == none:
		return [][]byte{address(e, 0, 5, 4)}
	}
	return [][]byte{
		address(e, 0, e.Base, 0),
		address(e, 1, e.Base, 1),
		address(e, 2, e.Base, 4),
	}
}

// address is ModRM of memory, with a SIB only where nothing else will do, and so many bytes of Disp.
func address(e api.Operand, mod, base, size int) []byte {
	b := []byte{fields(mod, 0, base)}
	if e.Index != none || base == api.Esp {
		b = []byte{fields(mod, 0, 4), sib(e, base)}
	}
	return append(b, number(e.Disp, size)...)
}

func sib(e api.Operand, base int) byte {
	if e.Index == none {
		return fields(0, 4, base)
	}
	return fields(bits.TrailingZeros(uint(e.Scale)), e.Index, base)
}

// fields are ModRM and SIB: two bits, three and three.
func fields(high, middle, low int) byte {
	return byte(high&3<<6 | middle&7<<3 | low&7)
}

// number is the lowest bytes of one, the lowest first; size is at most 4.
func number(n uint32, size int) []byte {
	all := []byte{byte(n), byte(n >> 8), byte(n >> 16), byte(n >> 24)}
	return all[:size:size]
}

// prefixes are the rows of them that may stand ahead. Of size 2 there are forms of the size v, which want 66, and such as have that size without it, so that both are tried.
func prefixes(x api.Inst) [][]byte {
	ahead := repetition(x.Rep)
	for _, o := range [3]api.Operand{x.A, x.B, x.C} {
		if o.Kind == api.OMem && o.Seg != usual(o) {
			ahead = slices.Concat(ahead, segment(o.Seg))
		}
	}
	if x.Size == 2 {
		return [][]byte{ahead, slices.Concat(ahead, []byte{0x66})}
	}
	return [][]byte{ahead}
}

// usual is the segment that memory has if no prefix names one.
func usual(o api.Operand) int {
	if o.Base == api.Esp || o.Base == api.Ebp {
		return api.Ss
	}
	return api.Ds
}

func repetition(rep int) []byte {
	switch rep {
	case api.Rep:
		return []byte{0xF3}
	case api.Repne:
		return []byte{0xF2}
	}
	return nil
}

func segment(seg int) []byte {
	switch seg {
	case api.Es:
		return []byte{0x26}
	case api.Cs:
		return []byte{0x2E}
	case api.Ss:
		return []byte{0x36}
	case api.Ds:
		return []byte{0x3E}
	case api.Fs:
		return []byte{0x64}
	case api.Gs:
		return []byte{0x65}
	}
	return nil
}
