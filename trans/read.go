package trans

import (
	"drawloom/api"
	"drawloom/decode"
	"drawloom/exec"
)

// add puts an instruction behind those that are there.
func (b *Block) add(x api.Inst, at []uint32, do part) {
	b.insts = append(b.insts, x)
	b.parts = append(b.parts, do)
	for _, place := range at {
		b.granules = append(b.granules, place-place%api.Granule)
	}
}

// first is the part of the instruction that was fetched.
func first(e *exec.Env, x api.Inst, at []uint32) part {
	if overPages(e, x.Len) {
		return untranslated
	}
	bytes := make([]byte, len(at))
	for n, place := range at {
		v, _ := e.Mem.Ram().Read(place, 1)
		bytes[n] = byte(v)
	}
	return translated(x, bytes)
}

// follow adds what stands behind the first instruction: up to one that leads elsewhere, and up to the end of the page that was asked for last, since another one would be marked.
func (b *Block) follow(e *exec.Env, most int) {
	off := e.Cpu.Eip + uint32(b.insts[0].Len)
	page := pageOf(e, off-1)
	for len(b.insts) < most && !leads(b.insts[len(b.insts)-1]) {
		x, bytes, at, ok := read(e, off, page)
		if !ok {
			return
		}
		b.add(x, at, translated(x, bytes))
		off += uint32(x.Len)
	}
}

// read is the instruction at a place of CS, if it lies in that page.
func read(e *exec.Env, off, page uint32) (x api.Inst, bytes []byte, at []uint32, ok bool) {
	err := api.ErrDecodeMore
	for err == api.ErrDecodeMore {
		if pageOf(e, off) != page {
			return api.Inst{}, nil, nil, false
		}
		b, place, f := e.Mem.Code(&e.Cpu, off)
		if f.Vec >= 0 {
			return api.Inst{}, nil, nil, false
		}
		bytes, at = append(bytes, b), append(at, place)
		x, err = decode.Decode(bytes)
		off++
	}
	return x, bytes, at, err == api.OK
}

// leads is whether an instruction leads elsewhere, or may: what stands behind it may be no code.
func leads(x api.Inst) bool {
	switch x.Op {
	case api.IJmp, api.IJcc, api.ICall, api.IFar, api.IRet, api.ILoop, api.IInt, api.IIret, api.IHlt:
		return true
	}
	return false
}
