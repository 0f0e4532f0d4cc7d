package vmem

import (
	"math"
	"testing"

	"drawloom/api"
	"drawloom/ram"
)

// The chapter's examples.
func TestExamples(t *testing.T) {
	r := newRig(t)
	r.c.Seg[api.Ds].D.Limit = 7
	r.c.Seg[api.Es].Null = true
	r.does(call{name: "Store", seg: api.Ds, at: 4, size: 4, v: 0x04030201}, answer{f: none})
	r.does(call{name: "Load", seg: api.Ds, at: 4, size: 4}, answer{v: 0x04030201, f: none})
	r.faults(call{name: "Load", seg: api.Ds, at: 5, size: 4}, protection)
	r.faults(call{name: "Load", seg: api.Ss, at: 0xFFFFFFFF, size: 2}, stack)
	r.faults(call{name: "Load", seg: api.Es, at: 0, size: 1}, protection)
	r.c.Cr0 |= 1 << 31
	r.faults(call{name: "Load", seg: api.Ss, at: 0x1FFF, size: 2}, pageFault(0, 0x1FFF))
}

// P16.1.
func TestNew(t *testing.T) {
	p := newRam(t, 1)
	for _, x := range []struct {
		p      *ram.Ram
		places int
		err    api.Errno
	}{
		{p, 0, 0}, {p, 1, 0}, {p, 2, 0}, {p, 63, 0}, {p, 64, 0},
		{p, -1, 100}, {p, 65, 100}, {p, 1 << 32, 100}, {p, math.MinInt, 100}, {p, math.MaxInt, 100},
		{nil, 0, 1}, {nil, 64, 1},
		{nil, -1, 1}, {nil, 65, 1}, {nil, math.MinInt, 1}, {nil, math.MaxInt, 1},
	} {
		m, err := New(x.p, x.places)
		if err != x.err {
			t.Errorf("New(%p, %d): %d; want %d", x.p, x.places, err, x.err)
		}
		if (m != nil) != (x.err == 0) {
			t.Errorf("New(%p, %d): %v beside %d", x.p, x.places, m, err)
		}
	}
}

// P16.1: the memory is taken as it is.
func TestNewLeavesMemory(t *testing.T) {
	p := newRam(t, 16)
	p.Load(0x1234, []byte{1, 2, 3})
	p.Gate(false)
	p.Watch(0x1234)
	for _, places := range []int{0, 64, 65} {
		New(p, places)
	}
	if !p.Watched(0x1234) || len(p.Written()) != 0 {
		t.Error("New wrote")
	}
	if is := p.Dump(0x101234, 3); is[0] != 1 || is[1] != 2 || is[2] != 3 {
		t.Errorf("New changed the bytes, or the gate: %v", is)
	}
}

// P16.1.
func TestRam(t *testing.T) {
	p, q := newRam(t, 1), newRam(t, 1)
	for _, places := range []int{0, 1, 64} {
		a, b, other := newMem(t, p, places), newMem(t, p, places), newMem(t, q, places)
		if a.Ram() != p || b.Ram() != p || other.Ram() != q {
			t.Errorf("%d places: Ram is not what New was given", places)
		}
		a.Flush()
		a.Drop(0)
		if a.Ram() != p {
			t.Errorf("%d places: Ram is another one behind Flush and Drop", places)
		}
	}
}

// P16.1: Flush and Drop reach the tlb: by whatever cr3 a page was found, and by whichever of its addresses it is dropped.
func TestFlushAndDropReachTheTlb(t *testing.T) {
	find := func() *rig {
		r := newPaged(t)
		r.page(0x5000, 0x6007)
		r.page(0x7000, 0x6007)
		for _, lin := range []uint32{0x5000, 0x7FFF} {
			r.does(call{name: "Sys", at: lin, size: 1}, answer{f: none})
		}
		if r.m.pages.Kept() != 2 {
			t.Fatalf("%d pages are kept; want 2, so that there is something to forget", r.m.pages.Kept())
		}
		return r
	}
	r := find()
	r.m.Flush()
	if n := r.m.pages.Kept(); n != 0 {
		t.Errorf("Flush: %d pages are kept", n)
	}
	for _, low := range []uint32{0, 1, 0xABC, 0xFFF} {
		r = find()
		r.m.Drop(0x5000 + low)
		if n := r.m.pages.Kept(); n > 1 {
			t.Errorf("Drop(%#x): %d pages are kept", 0x5000+low, n)
		}
		r.m.Drop(0x7000 + low)
		if n := r.m.pages.Kept(); n != 0 {
			t.Errorf("Drop(%#x): %d pages are kept", 0x7000+low, n)
		}
		r.m.Drop(0x9000 + low)
		r.m.Flush()
	}
}

// P16.1, P16.6: with a table that was changed, and with one that was not, a page that is flushed or dropped is found anew.
func TestFlushAndDropAreUnseen(t *testing.T) {
	forgets := map[string]func(m *Mem){
		"nothing":           func(m *Mem) {},
		"Flush":             func(m *Mem) { m.Flush() },
		"Drop":              func(m *Mem) { m.Drop(0x5000) },
		"Drop of its end":   func(m *Mem) { m.Drop(0x5FFF) },
		"Drop of others":    func(m *Mem) { m.Drop(0x4FFF); m.Drop(0x6000); m.Drop(0xFFFFFFFF) },
		"Flush, then Flush": func(m *Mem) { m.Flush(); m.Flush() },
	}
	for name, forget := range forgets {
		r := newPaged(t)
		r.lay(0x6010, 0x66666666)
		r.lay(0x8010, 0x88888888)
		r.page(0x5000, 0x6007)
		load := call{name: "Load", seg: api.Ds, at: 0x5010, size: 4}
		forget(r.m)
		r.does(load, answer{v: 0x66666666, f: none})
		forget(r.m)
		r.does(load, answer{v: 0x66666666, f: none})
		r.page(0x5000, 0x8007)
		forget(r.m)
		r.does(load, answer{v: 0x88888888, f: none})
		r.page(0x5000, 0x8006)
		forget(r.m)
		r.faults(load, pageFault(0, 0x5010))
		r.is(second(0x5000), 0x8006)
		if t.Failed() {
			t.Fatalf("with %s", name)
		}
	}
}

// every are the calls with much that they may be handed, ordinary and wrong.
func every() []call {
	var out []call
	ats := []uint32{0, 1, 0xFFF, 0xFFFE, 0x12345, 0x7FFFFFFF, 0x80000000, 0xFFFFFFFD, 0xFFFFFFFF}
	for _, name := range names {
		for _, at := range ats {
			for _, size := range append(noSizes, sizes...) {
				for _, seg := range append(noSegs, segments...) {
					out = append(out, call{name, seg, at, size, 0x01020304})
				}
			}
		}
	}
	return out
}

// P16.5, R1: of no Mem and of no processor, ahead of all else: an SS that is null would be 12, no tables 14.
func TestNoMemAndNoProcessor(t *testing.T) {
	r := newPaged(t)
	r.c.Cr3 = 0x9000
	r.c.Seg[api.Ss].Null = true
	var no *Mem
	for _, x := range every() {
		for what, is := range map[string]answer{
			"no Mem":                      x.of(no, &r.c),
			"no processor":                x.of(r.m, nil),
			"neither":                     x.of(no, nil),
			"a Mem that New did not make": x.of(&Mem{}, &r.c),
		} {
			if is != (answer{f: protection}) {
				t.Fatalf("%s: %+v: %+v", what, x, is)
			}
		}
	}
	for _, m := range []*Mem{nil, {}} {
		m.Flush()
		m.Drop(0)
		m.Drop(0xFFFFFFFF)
		if m.Ram() != nil {
			t.Errorf("Ram of %v is not nil", m)
		}
	}
}

// P16.5: no processor changes nothing.
func TestNoProcessorChangesNothing(t *testing.T) {
	r := newRig(t)
	was := string(r.dump())
	for _, name := range names {
		call{name, api.Ds, 0x20, 4, 0x01020304}.of(r.m, nil)
	}
	if string(r.dump()) != was {
		t.Error("memory was changed")
	}
}

// R1: every call ends, and none panics, whatever the processor is; and it changes none.
func TestNothingEndsTheProgram(t *testing.T) {
	odd := func(set func(c *api.Cpu)) api.Cpu {
		c := flat()
		set(&c)
		return c
	}
	each := func(set func(s *api.SegReg)) func(c *api.Cpu) {
		return func(c *api.Cpu) {
			for i := range c.Seg {
				set(&c.Seg[i])
			}
		}
	}
	processors := []api.Cpu{
		{}, flat(),
		odd(func(c *api.Cpu) { c.Cr0 = 0xFFFFFFFF; c.Cr3 = 0xFFFFFFFF }),
		odd(func(c *api.Cpu) { c.Cr0 = 1 << 31 }),
		odd(func(c *api.Cpu) { c.Cr0 = 1 << 31; c.Cr3 = 0x4FFF }),
		odd(each(func(s *api.SegReg) { s.Sel = 0xFFFF; s.D.Base = 0xFFFFFFFF })),
		odd(each(func(s *api.SegReg) { s.D.Type = math.MaxInt; s.D.Dpl = math.MinInt })),
		odd(each(func(s *api.SegReg) { s.D.Type = math.MinInt; s.D.Dpl = math.MaxInt })),
		odd(each(func(s *api.SegReg) { s.D.Type = 6; s.D.Limit = 0xFFF; s.D.Base = 0xFFFFF000 })),
		odd(each(func(s *api.SegReg) { s.Null = true; s.D = api.Desc{} })),
	}
	for _, p := range []*ram.Ram{newRam(t, 1), newRam(t, 256), {}} {
		for _, places := range []int{0, 1, 64} {
			m := newMem(t, p, places)
			for _, c := range processors {
				for _, x := range every() {
					was := c
					a := x.of(m, &c)
					if c != was {
						t.Fatalf("%+v changed %+v to %+v", x, was, c)
					}
					if a.f != none && (a.v != 0 || a.at != 0) {
						t.Fatalf("%+v of %+v: %+v: something beside a fault", x, c, a)
					}
					if a.f.Vec == -1 && a.f != none || a.f.Vec >= 0 && a.f.Code < 0 || a.f.Vec != 14 && a.f.Cr2 != 0 {
						t.Fatalf("%+v of %+v: %+v: no such fault", x, c, a)
					}
				}
			}
		}
	}
}

// P16.5: a physical memory without pages is one, all the same: what is read there is 255.
func TestMemoryWithoutPages(t *testing.T) {
	m := newMem(t, &ram.Ram{}, 1)
	c := flat()
	for _, x := range []struct {
		call
		want answer
	}{
		{call{name: "Load", seg: api.Ds, size: 4}, answer{v: 0xFFFFFFFF, f: none}},
		{call{name: "Store", seg: api.Ds, size: 4, v: 1}, answer{f: none}},
		{call{name: "Check", seg: api.Ds, size: 4}, answer{f: none}},
		{call{name: "Sys", size: 2}, answer{v: 0xFFFF, f: none}},
		{call{name: "SetSys", size: 2}, answer{f: none}},
		{call{name: "Code", at: 9}, answer{v: 255, at: 9, f: none}},
	} {
		if is := x.of(m, &c); is != x.want {
			t.Errorf("%+v: %+v; want %+v", x.call, is, x.want)
		}
	}
}
