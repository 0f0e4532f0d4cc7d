package except

import (
	"drawloom/api"
	"drawloom/segment"
)

func (t *turn) leave(size int) {
	if size != 2 && size != 4 || t.was().Flags&api.NT != 0 {
		panic(protection())
	}
	place := t.pushed(0, size)
	sel := uint16(t.pushed(1, size))
	flags := t.pushed(2, size)
	d, outer := t.interrupted(sel), ringOf(sel)
	if outer > t.ring() {
		t.giveStack(outer, size)
		t.hideData(outer)
	} else {
		t.then.R[api.Esp] += 3 * uint32(size)
	}
	if place > d.Limit {
		panic(protection())
	}
	t.putFlags(flags)
	t.then.Seg[api.Cs] = api.SegReg{Sel: sel, D: d}
	t.then.Eip = place
	t.then.Shadow = false
}

// pushed is the n-th value from ESP on.
func (t *turn) pushed(n, size int) uint32 {
	v, f := t.env.Mem.Load(t.was(), api.Ss, t.was().R[api.Esp]+uint32(n*size), size)
	raise(f)
	return v
}

// interrupted is the code that is gone back to. That is never further in.
func (t *turn) interrupted(sel uint16) api.Desc {
	code, outer := codeOf(sel), ringOf(sel)
	if outer < t.ring() {
		panic(fault(api.GP, code))
	}
	d := t.find(sel, api.GP, code)
	if vector := segment.Code(sel, d, outer); vector >= 0 {
		panic(fault(vector, code))
	}
	return d
}

// giveStack makes the stack that of an outer ring again.
func (t *turn) giveStack(outer, size int) {
	esp := t.pushed(3, size)
	sel := uint16(t.pushed(4, size))
	t.then.Seg[api.Ss] = t.stack(sel, outer, api.GP, codeOf(sel))
	if size == 2 {
		// Of ESP only the lower half was pushed: the upper one stays, as of every register that is written so.
		esp |= t.was().R[api.Esp] &^ 0xFFFF
	}
	t.then.R[api.Esp] = esp
}

// hideData makes null what an outer ring could not load.
func (t *turn) hideData(outer int) {
	for _, n := range [...]int{api.Es, api.Ds, api.Fs, api.Gs} {
		r := &t.then.Seg[n]
		if !r.Null && guarded(r.D) && r.D.Dpl < outer {
			*r = api.SegReg{Null: true}
		}
	}
}

// guarded tells whether a ring may be too far out for a segment: it is data, or code that is not conforming. A register may hold a Type that is none.
func guarded(d api.Desc) bool {
	isOne := !d.System && d.Type >= 0 && d.Type <= 15
	isConforming := d.Type&(8|conforming) == 8|conforming
	return isOne && !isConforming
}

// putFlags takes out of a word what the ring may change.
func (t *turn) putFlags(word uint32) {
	was, ring := t.was().Flags, t.ring()
	named := uint32(api.CF | api.PF | api.AF | api.ZF | api.SF | api.TF | api.DF | api.OF | api.NT)
	if ring <= int(was&api.IOPL>>12) {
		named |= api.IF
	}
	if ring == 0 {
		named |= api.IOPL
	}
	t.then.Flags = was&^named | word&named | api.One
}
