package step_test

import (
	"math/rand"
	"testing"

	"drawloom/api"
	"drawloom/bus"
	"drawloom/except"
	"drawloom/exec"
	"drawloom/step"
	"drawloom/vmem"
)

// The chapter's examples.
func TestExamples(t *testing.T) {
	e := program(t, "eax=0 set=IF", "40F4")
	mask(e.Bus, 0xFF, 0xFF)
	walk(t, "40 F4", e, [2]int{inst, 0x101}, [2]int{inst, 0x102}, [2]int{wait, 0x102})
	if e.Cpu.R[api.Eax] != 1 || !e.Cpu.Halted {
		t.Errorf("%+v", e.Cpu)
	}
	if n := step.Steps(e, 3); n != 3 || e.Bus.Now() != early+6 {
		t.Errorf("%d, time %d", n, e.Bus.Now())
	}
	walk(t, "0F 0B", program(t, "gate=6:8:6060:8E00", "0F0B"), [2]int{fault, 0x6060})
}

// P19.5: no Env, or one without Mem or Bus; the processor stays, and the time.
func TestNoEnv(t *testing.T) {
	whole := program(t, "", "90")
	was := stateOf(whole, 0)
	dying := whole.Cpu
	dying.Dead = true
	for name, e := range map[string]*exec.Env{
		"none":              nil,
		"neither":           {Cpu: whole.Cpu},
		"without Mem":       {Cpu: whole.Cpu, Bus: whole.Bus},
		"without Bus":       {Cpu: whole.Cpu, Mem: whole.Mem},
		"dead, without Bus": {Cpu: dying, Mem: whole.Mem},
	} {
		var ahead api.Cpu
		if e != nil {
			ahead = e.Cpu
		}
		if x, at, f := step.Fetch(e); x != (api.Inst{}) || len(at) != 0 || f != gp(0) {
			t.Errorf("%s: Fetch: %+v, %x, %+v", name, x, at, f)
		}
		for _, b := range [][]byte{{0x90}, {0xCD, 0x80}, {0xCF}, {0xF4}} {
			if k := step.Finish(e, mean(t, b)); k != 0 {
				t.Errorf("%s: Finish: %d", name, k)
			}
		}
		if k := step.Step(e); k != 0 {
			t.Errorf("%s: Step: %d", name, k)
		}
		for _, n := range []int{-1, 0, 1, 5, 1 << 40} {
			if done := step.Steps(e, n); done != 0 {
				t.Errorf("%s: Steps(%d): %d", name, n, done)
			}
		}
		if e != nil && e.Cpu != ahead {
			t.Errorf("%s: %s", name, unlike(e.Cpu, ahead))
		}
	}
	stateOf(whole, 0).holds(t, "the other one", was)
}

// byHand is a step put together of what the layers below do, as the chapter says it.
func byHand(e *exec.Env) int {
	c := &e.Cpu
	kind := 0
	switch {
	case c.Dead:
		return dead
	case e.Bus.Pending() && c.Flags&fi != 0 && !c.Shadow:
		kind = interrupt
		if f := except.Enter(e, e.Bus.Ack(), -1, false); f != none {
			except.Fault(e, f)
		}
	case c.Halted:
		kind = wait
	default:
		kind = inst
		if f := doneByHand(e); f != none {
			kind = fault
			except.Fault(e, f)
		}
	}
	e.Bus.Tick(1)
	return kind
}

// doneByHand is an instruction that is fetched and done.
func doneByHand(e *exec.Env) api.Fault {
	x, _, f := step.Fetch(e)
	if f != none {
		return f
	}
	was := e.Cpu
	out := exec.Do(e, x)
	f = out.F
	if out.Soft >= 0 {
		f = except.Enter(e, out.Soft, -1, true)
	}
	if out.Iret {
		f = except.Return(e, x.Size)
	}
	if f != none {
		e.Cpu = was
	}
	return f
}

// pieces are what random programs are made of.
var pieces = [][]byte{
	{0x40}, {0x4B}, {0x01, 0xD8}, {0x50}, {0x5B}, {0x9C}, {0x9D}, {0xFA}, {0xFB}, {0xF4}, {0xCC}, {0xCE}, {0xCF}, {0xCD, 0x80}, {0xCD, 0x24},
	{0x0F, 0x0B}, {0xF7, 0xF3}, {0x8E, 0xD0}, {0x8E, 0xD8}, {0x17}, {0xEB, 0x02}, {0xEB, 0xF0}, {0xE8, 1, 0, 0, 0}, {0xC3}, {0xF3, 0xAA}, {0xA4},
	{0xA3, 0x10, 0x01, 0, 0}, {0xA1, 0, 0x50, 0, 0}, {0xC6, 0x05, 0x20, 0x01, 0, 0, 0x40}, {0xB0, 0x20}, {0xE6, 0x20}, {0xE4, 0x40}, {0x66, 0x90},
	{0xB8, 0x10, 0, 0, 0}, {0xB9, 3, 0, 0, 0}, {0x61}, {0x60}, {0x66, 0x66, 0x66}, {0x0F, 0x22, 0xD8}, {0x0F, 0x20, 0xC0}, {0x8D, 0x24, 0x25, 0, 0x90, 0, 0},
}

// randomProgram is a state whose memory is full of pieces, at its place and at those of its gates.
func randomProgram(r *rand.Rand) state {
	s := fresh()
	if r.Intn(2) == 0 {
		s.cpu.Cr0 |= 1 << 31
		s.lay(secondTable+4*5, uint32(r.Intn(16))<<12|uint32(r.Intn(8)))
	}
	if r.Intn(3) == 0 {
		s.setRing(3)
	}
	s.cpu.Flags = one | uint32(r.Intn(2))*fi | uint32(r.Intn(4))<<12
	s.cpu.R[api.Ecx], s.cpu.R[api.Eax], s.cpu.R[api.Edi] = uint32(r.Intn(6)), uint32(r.Intn(8))*8, uint32(0x100+r.Intn(0x40))
	fill := func(from, to int) {
		for at := from; at < to; {
			at += copy(s.mem[at:to], pieces[r.Intn(len(pieces))])
		}
	}
	fill(begin, begin+0x80)
	fill(handlers, handlers+0x1000)
	return s
}

// P19.2, P19.3, P19.6: random programs, step by step: each is what the layers below do, and lets one tick go by.
func TestAsByHand(t *testing.T) {
	r := rand.New(rand.NewSource(19))
	seen := map[int]int{}
	for range 300 {
		s := randomProgram(r)
		e, other := s.env(t), s.env(t)
		for range 60 {
			if r.Intn(4) == 0 {
				for _, b := range []*bus.Bus{e.Bus, other.Bus} {
					b.In(0x3F8, 1)
					b.Out(0x20, 1, 0x20)
					b.Push(9)
				}
			}
			now := e.Bus.Now()
			is, want := step.Step(e), byHand(other)
			seen[is]++
			if is != want || e.Cpu != other.Cpu || e.Bus.Now() != other.Bus.Now() || is != dead && e.Bus.Now() != now+1 {
				t.Fatalf("%d; want %d; time %d; %s", is, want, e.Bus.Now(), unlike(e.Cpu, other.Cpu))
			}
		}
		stateOf(e, 0).holds(t, "then", stateOf(other, 0))
	}
	for kind := dead; kind <= fault; kind++ {
		if seen[kind] < 100 {
			t.Errorf("%v", seen)
		}
	}
}

// P19.4, P19.6: steps at once are steps one by one.
func TestAtOnceAsOneByOne(t *testing.T) {
	r := rand.New(rand.NewSource(4))
	for range 100 {
		s := randomProgram(r)
		e, other := s.env(t), s.env(t)
		for range 5 {
			n, done := r.Intn(40), 0
			for range n {
				if step.Step(other) != dead {
					done++
				}
			}
			if is := step.Steps(e, n); is != done {
				t.Fatalf("Steps(%d): %d; want %d", n, is, done)
			}
			e.Bus.Push(7)
			other.Bus.Push(7)
		}
		stateOf(e, 0).holds(t, "then", stateOf(other, 0))
	}
}

// drawn is a number near the ends, or anywhere.
func drawn(r *rand.Rand) int {
	odd := []int{0, 1, 2, 3, 4, 8, 13, 15, 16, 255, 256, -1, -2, 1 << 31, 1 << 32, -1 << 63, 1<<63 - 1}
	if r.Intn(3) == 0 {
		return int(r.Uint64())
	}
	return odd[r.Intn(len(odd))]
}

func drawnInst(r *rand.Rand) api.Inst {
	operand := func() api.Operand {
		return api.Operand{Kind: r.Intn(9) - 1, Reg: drawn(r), Size: drawn(r), Seg: drawn(r), Base: drawn(r), Index: drawn(r), Scale: drawn(r), Disp: r.Uint32(), Imm: r.Uint32()}
	}
	return api.Inst{Op: r.Intn(50) - 1, Sub: drawn(r), Size: drawn(r), A: operand(), B: operand(), C: operand(), Rep: drawn(r), Len: drawn(r)}
}

func drawnCpu(r *rand.Rand) api.Cpu {
	near := func() uint32 { return r.Uint32() >> r.Intn(32) }
	yes := func() bool { return r.Intn(2) == 0 }
	c := api.Cpu{Eip: near(), Flags: r.Uint32(), Cr0: r.Uint32(), Cr2: r.Uint32(), Cr3: near(), Shadow: yes(), Halted: yes(), Dead: r.Intn(8) == 0}
	c.Gdt = api.Table{Base: near(), Limit: uint16(r.Uint32())}
	c.Idt = api.Table{Base: near(), Limit: uint16(r.Uint32())}
	for n := range c.R {
		c.R[n] = near()
	}
	segment := func() api.SegReg {
		return api.SegReg{Sel: uint16(r.Uint32()), Null: r.Intn(8) == 0, D: api.Desc{Base: near(), Limit: r.Uint32(), Type: drawn(r), System: r.Intn(4) == 0, Dpl: drawn(r), Present: yes(), Big: yes()}}
	}
	for n := range c.Seg {
		c.Seg[n] = segment()
	}
	c.Tr = segment()
	return c
}

// R1: no call panics or goes on for ever, whatever it is given.
func TestWhateverIsHandedIn(t *testing.T) {
	r := rand.New(rand.NewSource(5))
	s := fresh()
	e := s.env(t)
	for n := range 20000 {
		if n%50 == 0 {
			e.Mem.Flush()
			e.Mem.Ram().Load(0, s.mem)
		}
		e.Cpu = drawnCpu(r)
		if r.Intn(2) == 0 {
			e.Cpu = s.cpu
		}
		e.Bus.Push(byte(n))
		x, at, f := step.Fetch(e)
		if f != none && (x != api.Inst{} || len(at) != 0) || f == none && (len(at) != x.Len || x.Len < 1 || x.Len > 15) {
			t.Fatalf("%+v, %x, %+v", x, at, f)
		}
		if k := step.Finish(e, drawnInst(r)); k != inst && k != fault {
			t.Fatalf("Finish: %d", k)
		}
		if k := step.Step(e); k < dead || k > fault {
			t.Fatalf("Step: %d", k)
		}
		if done := step.Steps(e, r.Intn(5)-1); done < 0 || done > 3 {
			t.Fatalf("Steps: %d", done)
		}
	}
}

// R1: parts that nobody made end no call either: there is no memory, so that the first step is the last.
func TestEmptyParts(t *testing.T) {
	whole := program(t, "", "90")
	for _, b := range []*bus.Bus{{}, whole.Bus} {
		e := &exec.Env{Cpu: whole.Cpu, Mem: &vmem.Mem{}, Bus: b}
		if _, _, f := step.Fetch(e); f != gp(0) {
			t.Errorf("%+v", f)
		}
		if n := step.Steps(e, 9); n != 1 || !e.Cpu.Dead {
			t.Errorf("%d, %+v", n, e.Cpu)
		}
	}
	e := &exec.Env{Cpu: whole.Cpu, Mem: whole.Mem, Bus: &bus.Bus{}}
	if k := step.Step(e); k != inst || e.Cpu.Eip != 0x101 {
		t.Errorf("%d, %+v", k, e.Cpu)
	}
}

// R5: two environments that share nothing know nothing of each other.
func TestTwoEnvironments(t *testing.T) {
	s := fresh()
	s.apply("set=IF asks 100:9090", 0)
	a, b := s.env(t), s.env(t)
	step.Steps(a, 20)
	stateOf(b, 0).holds(t, "the other one", s)
}
