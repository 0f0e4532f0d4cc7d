package decode

import (
	"slices"

	"drawloom/api"
)

// only refuses each n of ModRM but some. Whoever asks it asks ahead of any byte behind ModRM.
func (f *form) only(some ...int) {
	if !slices.Contains(some, f.modrm().n) {
		f.refuse()
	}
}

// onlyMemory refuses a register.
func (f *form) onlyMemory() {
	if f.modrm().mod == 3 {
		f.refuse()
	}
}

// fromSegment is 8C: into memory go two bytes, whatever v is.
func fromSegment(f *form) {
	f.only(api.Es, api.Cs, api.Ss, api.Ds, api.Fs, api.Gs)
	size := 2
	if f.modrm().mod == 3 {
		size = f.v
	}
	f.is(api.IMov, 0, size, partE, segment(f.modrm().n))
}

// toSegment is 8E.
func toSegment(f *form) {
	f.only(api.Es, api.Ss, api.Ds, api.Fs, api.Gs)
	f.is(api.IMov, 0, 2, segment(f.modrm().n), partE)
}

// address is 8D.
func address(f *form) {
	f.onlyMemory()
	f.is(api.ILea, 0, f.v, partG, partE)
}

// unary is F6 and F7.
func unary(f *form, size int) {
	switch n := f.modrm().n; n {
	case 0, 1:
		f.is(api.IAlu, api.Test, size, partE, partI)
	case 2:
		f.is(api.IAlu, api.Not, size, partE)
	case 3:
		f.is(api.IAlu, api.Neg, size, partE)
	case 4, 5:
		f.is(api.IMul, n-4, size, partE)
	default:
		f.is(api.IDiv, n-6, size, partE)
	}
}

// countOrGo is FF.
func countOrGo(f *form) {
	switch f.modrm().n {
	case 0:
		f.is(api.IAlu, api.Inc, f.v, partE)
	case 1:
		f.is(api.IAlu, api.Dec, f.v, partE)
	case 2:
		f.is(api.ICall, 0, f.v, partE)
	case 4:
		f.is(api.IJmp, 0, f.v, partE)
	case 6:
		f.is(api.IPush, 0, f.v, partE)
	default:
		f.refuse()
	}
}

// system is 0F 01.
func system(f *form) {
	f.onlyMemory()
	switch f.modrm().n {
	case 2:
		f.is(api.ILgdt, 0, 4, partE)
	case 3:
		f.is(api.ILidt, 0, 4, partE)
	case 7:
		f.is(api.IInvlpg, 0, 4, partE)
	default:
		f.refuse()
	}
}
