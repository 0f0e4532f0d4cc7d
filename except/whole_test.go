package except_test

import (
	"fmt"
	"math"
	"math/rand"
	"testing"

	"drawloom/api"
	"drawloom/bus"
	"drawloom/except"
	"drawloom/exec"
	"drawloom/vmem"
)

// odd are numbers that are no size, no vector, no code.
var odd = []int{0, 1, 2, 3, 4, 5, 8, 10, 13, 14, 15, 16, 32, 64, 255, 256, 257, -1, -2, -8, math.MaxInt, math.MinInt, math.MaxInt32, math.MinInt32, 1 << 32, 1<<32 + 4, 1 << 61}

// The chapter's examples.
func TestExamples(t *testing.T) {
	s := fresh()
	s.apply("set=IF", 0)
	e := s.env(t)
	want := s.clone()
	want.apply("to14=6030 stack=8FF4:100,8,202", 0)
	stateOf(e, except.Enter(e, 3, -1, false)).holds(t, "Enter", want)
	want.cpu = s.cpu
	stateOf(e, except.Return(e, 4)).holds(t, "Return", want)
	e.Cpu.Idt.Limit, want.cpu.Idt.Limit = 511, 511
	want.f = gp(1602)
	stateOf(e, except.Enter(e, 200, -1, true)).holds(t, "Enter", want)
	e.Cpu.Idt.Limit, want.cpu.Idt.Limit = 0, 0
	want.f, want.cpu.Dead = none, true
	except.Fault(e, api.Fault{Vec: 6, Code: -1})
	stateOf(e, none).holds(t, "Fault", want)
}

// P18.4: no Env, or one without Mem or Bus; the processor stays, and memory.
func TestNoEnv(t *testing.T) {
	whole := fresh().env(t)
	for name, e := range map[string]*exec.Env{
		"none":        nil,
		"neither":     {Cpu: whole.Cpu},
		"without Mem": {Cpu: whole.Cpu, Bus: whole.Bus},
		"without Bus": {Cpu: whole.Cpu, Mem: whole.Mem},
	} {
		for _, n := range odd {
			for _, soft := range []bool{false, true} {
				if f := except.Enter(e, n, -1, soft); f != gp(0) {
					t.Errorf("%s: Enter(%d): %+v", name, n, f)
				}
			}
			if f := except.Return(e, n); f != gp(0) {
				t.Errorf("%s: Return(%d): %+v", name, n, f)
			}
			except.Fault(e, api.Fault{Vec: n, Code: n, Cr2: 5})
		}
		if e != nil && e.Cpu != whole.Cpu {
			t.Errorf("%s: %s", name, unlike(e.Cpu, whole.Cpu))
		}
	}
	stateOf(whole, none).holds(t, "the other one", fresh())
}

// P18.5: what is delivered is undone: from each ring, into each, by each kind of gate, with a code and without, with pages and without.
func TestThereAndBack(t *testing.T) {
	r := rand.New(rand.NewSource(18))
	for ring := range 4 {
		for _, sel := range []int{0x08, 0x18, 0x28, 0x38, 0x48, 0x50, 0x58, 0x60} {
			for _, kind := range []int{0x8E00, 0x8F00} {
				for code := -1; code < 1; code++ {
					for _, begin := range []func() state{fresh, paged} {
						s := begin()
						s.apply(fmt.Sprintf("in=%x gate=3:%x:6030:%x", ring, sel, kind), 0)
						s.cpu.Flags = r.Uint32()&^nt | one
						if sel != 0x08 {
							// Only with IOPL may other rings than 0 set IF again.
							s.cpu.Flags |= iopl3
						}
						checkThereAndBack(t, s, code)
					}
				}
			}
		}
	}
}

func checkThereAndBack(t *testing.T, s state, code int) {
	t.Helper()
	e := s.env(t)
	if f := except.Enter(e, 3, code, false); f != none {
		ring, dpl := int(s.cpu.Seg[api.Cs].Sel)&3, int(f.Code&^7)
		if d := entries()[uint16(dpl)].d; f.Vec != 13 || d.Dpl <= ring {
			t.Errorf("%+v, from ring %d", f, ring)
		}
		return
	}
	if e.Cpu.Eip != 0x6030 || e.Cpu == s.cpu {
		t.Errorf("nothing was delivered: %+v", e.Cpu)
	}
	if code >= 0 {
		e.Cpu.R[api.Esp] += 4
	}
	if f := except.Return(e, 4); f != none || e.Cpu != s.cpu {
		t.Errorf("from %#x: %+v, %s", s.cpu.Seg[api.Cs].Sel, f, unlike(e.Cpu, s.cpu))
	}
}

// P18.5: one within the other, and back again, in steps from the outermost ring to the innermost one.
func TestOneWithinTheOther(t *testing.T) {
	s := paged()
	s.apply("in=3 set=IF+TF gate=20:28:1000:EF00 gate=21:18:2000:EF00 gate=22:8:3000:8E00 gate=D:8:4000:8E00", 0)
	s.apply("iopl=2", 0)
	e := s.env(t)
	var was []api.Cpu
	for _, vec := range []int{0x20, 0x21, 0x22, 0x22} {
		was = append(was, e.Cpu)
		if f := except.Enter(e, vec, -1, false); f != none {
			t.Fatalf("%#x: %+v", vec, f)
		}
	}
	was = append(was, e.Cpu)
	except.Fault(e, gp(0x18))
	if v, _ := e.Mem.Ram().Read(e.Cpu.R[api.Esp], 4); e.Cpu.Eip != 0x4000 || v != 0x18 {
		t.Fatalf("%+v", e.Cpu)
	}
	e.Cpu.R[api.Esp] += 4
	for n := len(was) - 1; n >= 0; n-- {
		if f := except.Return(e, 4); f != none || e.Cpu != was[n] {
			t.Fatalf("%d: %+v, %s", n, f, unlike(e.Cpu, was[n]))
		}
	}
}

// P18.5: behind Fault the processor is at a gate's place, with what that gate's class asks for on its stack, or it is Dead.
func TestBehindFault(t *testing.T) {
	r := rand.New(rand.NewSource(7))
	dead, there := 0, 0
	for range 3000 {
		with := map[int]int{}
		for range r.Intn(8) {
			with[r.Intn(16)] = 10 + r.Intn(5)
		}
		s := spoiled(with)
		e := s.env(t)
		f := api.Fault{Vec: r.Intn(16), Code: r.Intn(3) - 1, Cr2: r.Uint32()}
		except.Fault(e, f)
		is := e.Cpu
		if is.Dead {
			dead++
			is.Dead, is.Cr2 = false, s.cpu.Cr2
			if is != s.cpu {
				t.Fatalf("%+v, %v: %s", f, with, unlike(is, s.cpu))
			}
			continue
		}
		there++
		vec := int(is.Eip-ladderPlace) / 16
		if _, failing := with[vec]; failing || vec > 15 || is.Eip%16 != 0 || is.R[api.Esp] < 0x8FF0 || is.R[api.Esp] > 0x8FF4 {
			t.Fatalf("%+v, %v: %+v", f, with, is)
		}
	}
	if dead < 100 || there < 1000 {
		t.Errorf("%d were dead, %d not", dead, there)
	}
}

func drawnCpu(r *rand.Rand) api.Cpu {
	n := func() int { return odd[r.Intn(len(odd))] }
	near := func() uint32 { return r.Uint32() >> r.Intn(32) }
	c := api.Cpu{Eip: near(), Flags: r.Uint32(), Cr0: r.Uint32(), Cr2: r.Uint32(), Cr3: near(), Shadow: r.Intn(2) == 0, Halted: r.Intn(2) == 0, Dead: r.Intn(2) == 0}
	c.Gdt = api.Table{Base: near(), Limit: uint16(r.Uint32())}
	c.Idt = api.Table{Base: near(), Limit: uint16(r.Uint32())}
	for i := range c.R {
		c.R[i] = near()
	}
	drawn := func() api.SegReg {
		return api.SegReg{Sel: uint16(r.Uint32()), Null: r.Intn(8) == 0, D: api.Desc{Base: near(), Limit: r.Uint32(), Type: n(), System: r.Intn(4) == 0, Dpl: n(), Present: r.Intn(4) != 0, Big: r.Intn(2) == 0}}
	}
	for i := range c.Seg {
		c.Seg[i] = drawn()
	}
	c.Tr = drawn()
	if r.Intn(2) == 0 {
		c.Cr0, c.Gdt, c.Idt = 1, api.Table{Base: gdtBase, Limit: gdtLimit}, api.Table{Base: idtBase, Limit: idtLimit}
		c.Flags &^= nt
		c.Seg[api.Ss] = api.SegReg{Sel: 0x10, D: entries()[0x10].d}
		c.R[api.Esp] = 0x8000 + r.Uint32()%0x1000
	}
	return c
}

// R1: no call panics or goes on for ever, whatever processor, memory and numbers it is given; a fault leaves the processor as it was.
func TestWhateverIsHandedIn(t *testing.T) {
	r := rand.New(rand.NewSource(3))
	n := func() int { return odd[r.Intn(len(odd))] }
	s := fresh()
	for i := idtBase; i < idtBase+idtLimit; i += 8 {
		s.lay(uint32(i), uint32(r.Intn(0x18))*8<<16|r.Uint32()%0x2000, 0x8000|uint32(14+r.Intn(2))<<8|uint32(r.Intn(4))<<13)
	}
	e := s.env(t)
	ended := map[bool]int{}
	for range 60000 {
		was := drawnCpu(r)
		vec := r.Intn(256)
		if r.Intn(4) == 0 {
			vec = n()
		}
		if r.Intn(100) == 0 {
			e.Mem.Ram().Load(0, s.mem)
		}
		e.Cpu = was
		f := except.Enter(e, vec, n(), r.Intn(2) == 0)
		ended[f == none]++
		if f != none && e.Cpu != was {
			t.Fatalf("Enter(%d): %+v, %s", vec, f, unlike(e.Cpu, was))
		}
		e.Cpu = was
		e.Mem.Ram().Write(was.R[api.Esp]+4, 2, uint32(r.Intn(0x18)*8+r.Intn(4)))
		if f := except.Return(e, n()); f != none && e.Cpu != was {
			t.Fatalf("Return: %+v, %s", f, unlike(e.Cpu, was))
		}
		e.Cpu = was
		except.Fault(e, api.Fault{Vec: vec, Code: n(), Cr2: r.Uint32()})
	}
	if ended[true] < 1000 || ended[false] < 1000 {
		t.Errorf("%v", ended)
	}
}

// R1: a memory and a bus that nobody made end no call either: there a fault can't be delivered.
func TestEmptyParts(t *testing.T) {
	s := fresh()
	whole := s.env(t)
	for _, e := range []*exec.Env{
		{Cpu: s.cpu, Mem: &vmem.Mem{}, Bus: &bus.Bus{}},
		{Cpu: s.cpu, Mem: &vmem.Mem{}, Bus: whole.Bus},
	} {
		for vec := range 256 {
			e.Cpu = s.cpu
			if f := except.Enter(e, vec, 5, false); f != gp(0) || e.Cpu != s.cpu {
				t.Errorf("Enter(%d): %+v", vec, f)
			}
			if f := except.Return(e, 4); f != gp(0) || e.Cpu != s.cpu {
				t.Errorf("Return: %+v", f)
			}
			except.Fault(e, api.Fault{Vec: vec, Code: 5})
			if !e.Cpu.Dead {
				t.Errorf("Fault of %d: %+v", vec, e.Cpu)
			}
		}
	}
	e := &exec.Env{Cpu: s.cpu, Mem: whole.Mem, Bus: &bus.Bus{}}
	if f := except.Enter(e, 3, -1, false); f != none {
		t.Errorf("%+v", f)
	}
}

// R5: two environments that share nothing know nothing of each other; of the bus nothing is asked.
func TestTwoEnvironments(t *testing.T) {
	s := paged()
	s.apply("in=3", 0)
	a, b := s.env(t), s.env(t)
	a.Bus.Tick(70000)
	b.Bus.Tick(70000)
	except.Enter(a, 3, -1, false)
	except.Fault(a, gp(7))
	stateOf(b, none).holds(t, "the other one", s)
	if a.Bus.Now() != 70000 || a.Bus.Pending() != b.Bus.Pending() || a.Bus.Ack() != b.Bus.Ack() {
		t.Error("the bus was asked")
	}
}
