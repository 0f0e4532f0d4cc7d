package step

import (
	"drawloom/api"
	"drawloom/decode"
	"drawloom/exec"
)

// Fetch is the instruction at the processor's place, and where its bytes lie; or a fault.
func Fetch(e *exec.Env) (x api.Inst, at []uint32, f api.Fault) {
	if lacks(e) {
		return api.Inst{}, nil, protection()
	}
	// One by one: a byte behind the instruction may lie where there is no page, and asking for it marks its page.
	var bytes []byte
	err := api.ErrDecodeMore
	for err == api.ErrDecodeMore {
		b, place, f := e.Mem.Code(&e.Cpu, e.Cpu.Eip+uint32(len(bytes)))
		if f.Vec >= 0 {
			return api.Inst{}, nil, f
		}
		bytes, at = append(bytes, b), append(at, place)
		x, err = decode.Decode(bytes)
	}
	if f := faultOf(err); f.Vec >= 0 {
		return api.Inst{}, nil, f
	}
	return x, at, api.None()
}

// faultOf is the fault of bytes that are no instruction.
func faultOf(err api.Errno) api.Fault {
	switch err {
	case api.ErrDecodeUd:
		return api.Fault{Vec: api.UD, Code: -1}
	case api.ErrDecodeLong:
		return protection()
	}
	return api.None()
}

func protection() api.Fault { return api.Fault{Vec: api.GP} }
