package segment

import (
	"drawloom/api"
)

// allowed is what is answered instead of a vector.
const allowed = -1

// kind is what tells what a segment lets: its Type but for bit 0, which says nothing.
type kind struct {
	system bool
	marks  int
}

// rights are what a kind lets. A data segment can always be read, so that read alone tells those that are data or readable code, and write alone the writable data.
type rights struct {
	code, conforming bool
	read, write      bool
	down             bool
}

// rightsOf are none of a system's segment and of a Type that is none: such ones do not stand in the map.
func rightsOf(d api.Desc) rights {
	return map[kind]rights{
		{marks: 0}:  {read: true},
		{marks: 2}:  {read: true, write: true},
		{marks: 4}:  {read: true, down: true},
		{marks: 6}:  {read: true, down: true, write: true},
		{marks: 8}:  {code: true},
		{marks: 10}: {code: true, read: true},
		{marks: 12}: {code: true, conforming: true},
		{marks: 14}: {code: true, conforming: true, read: true},
	}[kind{d.System, d.Type &^ 1}]
}

// Reach tells whether bytes of a segment may be read, or written.
func Reach(d api.Desc, off uint32, size int, write bool) bool {
	is := rightsOf(d)
	may := is.read
	if write {
		may = is.write
	}
	if !may || !d.Present || !canReach(size) {
		return false
	}
	// In 64 bits the last offset does not go round: behind 2^32 - 1 it is above every end.
	last := uint64(off) + uint64(size) - 1
	if is.down {
		return off > d.Limit && last <= topOf(d)
	}
	return last <= uint64(d.Limit)
}

func canReach(size int) bool { return size == 1 || size == 2 || size == 4 || size == 8 }

// topOf is the last offset of a segment that goes down.
func topOf(d api.Desc) uint64 {
	if d.Big {
		return 0xFFFFFFFF
	}
	return 0xFFFF
}

// Fit tells whether a segment register may be loaded: a vector, or -1.
func Fit(reg int, sel uint16, d api.Desc, cpl int) int {
	switch reg {
	case api.Ss:
		return fitStack(sel, d, cpl)
	case api.Es, api.Ds, api.Fs, api.Gs:
		return fitData(sel, d, cpl)
	}
	return api.GP
}

func fitStack(sel uint16, d api.Desc, cpl int) int {
	if ringOf(sel) != cpl || d.Dpl != cpl || !rightsOf(d).write {
		return api.GP
	}
	return ifPresent(d, api.SSV)
}

func fitData(sel uint16, d api.Desc, cpl int) int {
	is := rightsOf(d)
	tooFarOut := cpl > d.Dpl || ringOf(sel) > d.Dpl
	if !is.read || !is.conforming && tooFarOut {
		return api.GP
	}
	return ifPresent(d, api.NP)
}

// Code tells whether a far jump may go there: a vector, or -1.
func Code(sel uint16, d api.Desc, cpl int) int {
	is := rightsOf(d)
	if !is.code || !d.Big || !ringsLet(is.conforming, ringOf(sel), d.Dpl, cpl) {
		return api.GP
	}
	return ifPresent(d, api.NP)
}

// ringsLet tells whether a ring may jump into code: a conforming segment runs in the ring that it is called from, whatever the selector asks for.
func ringsLet(conforming bool, asked, dpl, cpl int) bool {
	if conforming {
		return dpl <= cpl
	}
	return dpl == cpl && asked <= cpl
}

func ringOf(sel uint16) int { return int(sel & 3) }

// ifPresent is asked last: what is not allowed is told ahead of what is not there.
func ifPresent(d api.Desc, vector int) int {
	if !d.Present {
		return vector
	}
	return allowed
}
