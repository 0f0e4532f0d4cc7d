package exec_test

import (
	"bytes"
	"math"
	"math/rand"
	"testing"

	"drawloom/api"
	"drawloom/bus"
	"drawloom/decode"
	"drawloom/exec"
	"drawloom/vmem"
)

// P17.4: no Env, or one without Mem or Bus; the processor stays.
func TestNoEnv(t *testing.T) {
	refused := exec.Outcome{F: gp(0), Soft: -1}
	whole := fresh().env(t)
	for name, e := range map[string]*exec.Env{
		"none":        nil,
		"neither":     {Cpu: whole.Cpu},
		"without Mem": {Cpu: whole.Cpu, Bus: whole.Bus},
		"without Bus": {Cpu: whole.Cpu, Mem: whole.Mem},
	} {
		for _, code := range []string{"90", "40", "F4", "CC", "CF", "8B 06", "50", "EE", "EC", "8E DB", "F6 F3", "EB 00"} {
			if out := exec.Do(e, inst(t, bytesOf(code))); out != refused {
				t.Errorf("%s, %s: %+v", name, code, out)
			}
		}
		if out := exec.Do(e, api.Inst{}); out != refused {
			t.Errorf("%s: %+v", name, out)
		}
		for _, sel := range []uint16{0, 3, 8, 0x10, 0x14, 0xFFFF} {
			if d, f := exec.Find(e, sel); d != (api.Desc{}) || f != gp(0) {
				t.Errorf("%s, Find(%#x): %+v, %+v", name, sel, d, f)
			}
			for seg := -1; seg < 8; seg++ {
				if f := exec.Load(e, seg, sel); f != gp(0) {
					t.Errorf("%s, Load(%d, %#x): %+v", name, seg, sel, f)
				}
			}
		}
		if e != nil && e.Cpu != whole.Cpu {
			t.Errorf("%s: %s", name, unlike(e.Cpu, whole.Cpu))
		}
	}
}

// kept tells whether the parts of a processor that an instruction says nothing of are as they were.
func kept(x api.Inst, is, was api.Cpu) bool {
	same := func(part bool, ops ...int) bool {
		for _, op := range ops {
			if x.Op == op {
				return true
			}
		}
		return part
	}
	for n := range is.Seg {
		loaded := x.A.Kind == api.OSeg && x.A.Reg == n && (x.Op == api.IMov || x.Op == api.IPop) || x.Op == api.IFar && n == api.Cs
		if !loaded && is.Seg[n] != was.Seg[n] {
			return false
		}
	}
	flagged := []int{api.IAlu, api.IShift, api.IDouble, api.IMul, api.IImul, api.IAdjust, api.IPopf, api.ISahf, api.IBit, api.IScan, api.IFlag}
	if x.Op == api.IString && (x.Sub == 1 || x.Sub == 4) {
		flagged = append(flagged, api.IString)
	}
	shadow := x.Op == api.IFlag && x.Sub == 6 || x.A.Kind == api.OSeg && x.A.Reg == api.Ss && (x.Op == api.IMov || x.Op == api.IPop)
	return same(is.Flags == was.Flags, flagged...) &&
		same(is.Cr0 == was.Cr0, api.IMovcr, api.IClts) && same(is.Cr2 == was.Cr2 && is.Cr3 == was.Cr3, api.IMovcr) &&
		same(is.Gdt == was.Gdt, api.ILgdt) && same(is.Idt == was.Idt, api.ILidt) && same(is.Tr == was.Tr, api.ILtr) &&
		same(is.Halted == was.Halted, api.IHlt) && is.Dead == was.Dead && (shadow || !is.Shadow) &&
		same(is.Eip == was.Eip+uint32(x.Len), api.IJmp, api.IJcc, api.ICall, api.IRet, api.ILoop, api.IFar, api.IString)
}

// twins are two environments with one past.
type twins [2]*exec.Env

func newTwins(t *testing.T) twins {
	return twins{fresh().env(t), fresh().env(t)}
}

// check does an instruction with both, in one state: what follows for all instructions is held.
func (w twins) check(t *testing.T, x api.Inst, s state) {
	t.Helper()
	var outs [2]exec.Outcome
	for n, e := range w {
		e.Cpu = s.cpu
		e.Mem.Ram().Load(0, s.mem)
		outs[n] = exec.Do(e, x)
	}
	out, is := outs[0], w[0].Cpu
	if outs[1] != out || w[1].Cpu != is {
		t.Fatalf("%+v: %+v, and then %+v", x, out, outs[1])
	}
	if out.F != none.F {
		if is != s.cpu || out.Soft != -1 || out.Iret {
			t.Fatalf("%+v: %+v, %s", x, out, unlike(is, s.cpu))
		}
		return
	}
	if !kept(x, is, s.cpu) || (out.Soft != -1 && x.Op != api.IInt) || out.Iret != (x.Op == api.IIret) {
		t.Fatalf("%+v: %+v, %s", x, out, unlike(is, s.cpu))
	}
}

// shaken is a state whose processor was drawn: near places and far ones, all rings.
func shaken(r *rand.Rand) state {
	s := paged()
	if r.Intn(2) == 0 {
		s = fresh()
	}
	for n := range s.cpu.R {
		if r.Intn(3) == 0 {
			s.cpu.R[n] = r.Uint32() >> r.Intn(32)
		} else {
			s.cpu.R[n] = r.Uint32() % 0x9000
		}
	}
	s.cpu.Flags, s.cpu.Shadow, s.cpu.Halted, s.cpu.Dead = r.Uint32()|one, r.Intn(2) == 0, r.Intn(4) == 0, r.Intn(4) == 0
	if r.Intn(2) == 0 {
		s.cpu.Seg[api.Cs].Sel |= uint16(r.Intn(4))
	}
	for n := range s.cpu.Seg {
		if r.Intn(6) == 0 {
			s.cpu.Seg[n].D.Limit = r.Uint32() >> r.Intn(32)
		}
		if r.Intn(12) == 0 {
			s.cpu.Seg[n].D.Base = r.Uint32() % 0x4000
		}
	}
	if r.Intn(4) == 0 {
		s.lay(secondTable+4*uint32(r.Intn(16)), byte(r.Intn(256)))
	}
	return s
}

// P17.1, P17.5: whatever the bytes say: a fault leaves the processor as it was; else Eip is behind, and all that nothing is said of stays; and it is the same each time.
func TestWhateverIsDecoded(t *testing.T) {
	r, w := rand.New(rand.NewSource(17)), newTwins(t)
	for range 400 {
		s := shaken(r)
		for n := range 40 {
			b := make([]byte, 15)
			for i := range b {
				b[i] = byte(r.Intn(256))
			}
			switch n % 4 {
			case 1:
				b[0] = 0x0F
			case 2:
				b[0] = 0x66
			case 3:
				copy(b, [][]byte{{0x66, 0x0F}, {0xF3}, {0xF2, 0x66}}[r.Intn(3)])
			}
			x, err := decode.Decode(b)
			if err != api.OK {
				continue
			}
			w.check(t, x, s)
		}
	}
}

// P17.1, P17.5: each opcode with each ModRM.
func TestEachOpcode(t *testing.T) {
	r, w := rand.New(rand.NewSource(5)), newTwins(t)
	done := map[int]bool{}
	for op := range 512 {
		s := shaken(r)
		for modrm := range 256 {
			code := []byte{byte(op), byte(modrm)}
			if op >= 256 {
				code = []byte{0x0F, byte(op), byte(modrm)}
			}
			for range 12 {
				code = append(code, byte(r.Intn(256)))
			}
			x, err := decode.Decode(code)
			if err != api.OK {
				continue
			}
			done[x.Op] = true
			if modrm%8 == 0 {
				s = shaken(r)
			}
			w.check(t, x, s)
		}
	}
	for op := api.IAlu; op <= api.IClts; op++ {
		if !done[op] {
			t.Errorf("the instruction %d was never done", op)
		}
	}
}

// odd are numbers that are no size, no register, no operation.
var odd = []int{0, 1, 2, 3, 4, 5, 6, 7, 8, 15, 16, 17, 31, 32, 33, 64, 255, 256, -1, -2, -4, -8, math.MaxInt, math.MinInt, math.MaxInt32, math.MinInt32, 1 << 32, 1<<32 + 4}

func oddOperand(r *rand.Rand) api.Operand {
	n := func() int { return odd[r.Intn(len(odd))] }
	return api.Operand{Kind: r.Intn(10) - 1, Reg: n(), Size: n(), Seg: n(), Base: n(), Index: n(), Scale: n(), Disp: r.Uint32(), Imm: r.Uint32() >> r.Intn(32)}
}

// R1: no call panics, whatever instruction and processor it is given; a fault leaves the processor as it was.
func TestWhateverIsHandedIn(t *testing.T) {
	r := rand.New(rand.NewSource(3))
	n := func() int { return odd[r.Intn(len(odd))] }
	s := fresh()
	e := s.env(t)
	for range 200000 {
		e.Cpu = api.Cpu{Eip: r.Uint32(), Flags: r.Uint32(), Cr0: r.Uint32(), Cr2: r.Uint32(), Cr3: r.Uint32(), Shadow: r.Intn(2) == 0, Halted: r.Intn(2) == 0, Dead: r.Intn(2) == 0}
		e.Cpu.Gdt = api.Table{Base: r.Uint32(), Limit: uint16(r.Uint32())}
		for i := range e.Cpu.R {
			e.Cpu.R[i] = r.Uint32() >> r.Intn(32)
		}
		for i := range e.Cpu.Seg {
			e.Cpu.Seg[i] = api.SegReg{Sel: uint16(r.Uint32()), Null: r.Intn(8) == 0, D: api.Desc{Base: r.Uint32(), Limit: r.Uint32(), Type: n(), System: r.Intn(4) == 0, Dpl: n(), Present: r.Intn(4) != 0, Big: r.Intn(2) == 0}}
		}
		was := e.Cpu
		x := api.Inst{Op: r.Intn(50), Sub: n(), Size: n(), A: oddOperand(r), B: oddOperand(r), C: oddOperand(r), Rep: n(), Len: n()}
		if r.Intn(20) == 0 {
			x.Op = n()
		}
		if r.Intn(2) == 0 {
			x.Size = []int{1, 2, 4}[r.Intn(3)]
		}
		if out := exec.Do(e, x); out.F != none.F && (e.Cpu != was || out.Soft != -1 || out.Iret) {
			t.Fatalf("%+v: %+v, %s", x, out, unlike(e.Cpu, was))
		}
		e.Cpu = was
		if _, f := exec.Find(e, uint16(r.Uint32())); e.Cpu != was {
			t.Fatalf("Find: %+v", f)
		}
		if f := exec.Load(e, n(), uint16(r.Uint32())); f != none.F && e.Cpu != was {
			t.Fatalf("Load: %+v", f)
		}
	}
}

// R1: a memory and a bus that nobody made end no call either.
func TestEmptyParts(t *testing.T) {
	s := fresh()
	whole := s.env(t)
	for _, e := range []*exec.Env{
		{Cpu: s.cpu, Mem: &vmem.Mem{}, Bus: &bus.Bus{}},
		{Cpu: s.cpu, Mem: whole.Mem, Bus: &bus.Bus{}},
		{Cpu: s.cpu, Mem: &vmem.Mem{}, Bus: whole.Bus},
	} {
		for _, code := range []string{"8B 06", "89 06", "01 06", "50", "58", "60", "EC", "ED", "EE", "EF", "E5 F0", "0F 22 DB", "0F 22 C3", "0F 01 3E", "0F 01 16", "8E DB", "EA 00000000 0800", "F3 A4", "90"} {
			exec.Do(e, inst(t, bytesOf(code)))
		}
		e.Cpu.R[api.Edx] = 0x1F0
		exec.Do(e, inst(t, bytesOf("ED")))
		exec.Do(e, inst(t, bytesOf("EF")))
		exec.Find(e, 8)
		exec.Load(e, api.Ds, 0x10)
	}
}

// R4: an environment goes by what its fields are now; two of them that share nothing know nothing of each other.
func TestTwoEnvironments(t *testing.T) {
	s := fresh()
	s.apply("2000:78563412")
	a, b := s.env(t), s.env(t)
	do(t, a, "C7 06 EFCDAB89", "40", "E6 92")
	stateOf(b, none).holds(t, "the other one", s)
	do(t, b, "8B 06")
	eax(t, b, 0x12345678)
	a.Mem = b.Mem
	do(t, a, "8B 06")
	eax(t, a, 0x12345678)
	if !bytes.Equal(stateOf(a, none).mem, s.mem) {
		t.Errorf("reading changed memory")
	}
}
