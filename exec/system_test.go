package exec_test

import (
	"fmt"
	"testing"

	"drawloom/api"
	"drawloom/exec"
)

// P17.3, IIn: of each size, by a number and by DX; the ring is held against IOPL.
func TestIn(t *testing.T) {
	runAll(t, []row{
		{"EC", "edx=1234F3FD", "al=FF"},
		{"EC", "edx=123403FD", "al=60"},
		{"66 ED", "edx=123403FD", "ax=B060"},
		{"ED", "dx=91", "eax=FFFF02FF"},
		{"E4 92", "", "al=2"},
		{"E5 92", "", "eax=FFFFFF02"},
		{"66 E5 92", "", "ax=FF02"},
		{"E4 F0", "", "al=FF"},
		{"66 ED", "dx=1234", "ax=FFFF"},
		{"66 ED", "dx=FFFF", "ax=FFFF"},
	})
	for ring := range 4 {
		for iopl := range 4 {
			before := fmt.Sprintf("ring=%x iopl=%x dx=92", ring, iopl)
			byte1, wide := "al=2", "eax=FFFFFF02"
			if ring > iopl {
				byte1, wide = "#GP(0)", "#GP(0)"
			}
			runAll(t, []row{{"EC", before, byte1}, {"ED", before, wide}, {"E4 92", before, byte1}, {"E5 92", before, wide}})
		}
	}
}

// P17.3, IIn: a port is asked once.
func TestInAsksOnce(t *testing.T) {
	s := fresh()
	s.apply("dx=3F8")
	e := s.env(t)
	if err := e.Bus.Out(0x3FA, 1, 1); err != api.OK {
		t.Fatal(err)
	}
	for b := range byte(3) {
		e.Bus.Push(7 + b)
	}
	for n := range uint32(3) {
		if out := exec.Do(e, inst(t, bytesOf("EC"))); out != none || e.Cpu.R[api.Eax]%256 != 7+n {
			t.Errorf("%+v, eax %#x", out, e.Cpu.R[api.Eax])
		}
	}
	if v, _ := e.Bus.In(0x3FD, 1); v != 0x60 {
		t.Errorf("there is more: %#x", v)
	}
}

// P17.3, IOut: of each size, by a number and by DX.
func TestOut(t *testing.T) {
	for _, c := range []struct {
		code, before, sent string
		port               uint16
		size               int
		want               uint32
	}{
		{"EE", "edx=123403F8 eax=12345641", "A", 0x3FF, 1, 0},
		{"66 EF", "edx=123403F8 eax=12340541", "A", 0x3F9, 1, 5},
		{"EF", "edx=123403F8 eax=03010441", "A", 0x3F9, 1, 4},
		{"EF", "edx=123403F8 eax=03010441", "A", 0x3FB, 1, 3},
		{"EE", "dx=3FF eax=12345641", "", 0x3FF, 1, 0x41},
		{"66 EF", "dx=3FE eax=12345641", "", 0x3FF, 1, 0x56},
		{"EF", "dx=3FC eax=12345641", "", 0x3FF, 1, 0x12},
		{"E6 92", "eax=FFFFFF00", "", 0x92, 1, 0},
		{"E6 92", "eax=2", "", 0x92, 1, 2},
		{"66 E7 91", "eax=100", "", 0x92, 1, 0},
		{"E7 91", "eax=FFFF00FF", "", 0x92, 1, 0},
		{"E7 92", "eax=FFFFFF00", "", 0x92, 1, 0},
		{"66 E7 21", "eax=A5", "", 0x21, 1, 0xA5},
	} {
		s := fresh()
		s.apply(c.before)
		e := s.env(t)
		out := exec.Do(e, inst(t, bytesOf(c.code)))
		want := s.cpu
		want.Eip += uint32(len(bytesOf(c.code)))
		if out != none || e.Cpu != want {
			t.Errorf("%s: %+v, %s", c.code, out, unlike(e.Cpu, want))
		}
		if sent := string(e.Bus.Sent()); sent != c.sent {
			t.Errorf("%s of %q: sent %q", c.code, c.before, sent)
		}
		if v, err := e.Bus.In(c.port, c.size); v != c.want || err != api.OK {
			t.Errorf("%s of %q: at %#x %#x", c.code, c.before, c.port, v)
		}
	}
}

// P17.3, IOut: the ring is held against IOPL, and then nothing is sent.
func TestOutByRings(t *testing.T) {
	for code, sends := range map[string]string{"EE": "A", "66 EF": "A", "EF": "A", "E6 F8": "", "E7 F8": ""} {
		for ring := range 4 {
			for iopl := range 4 {
				s := fresh()
				s.apply(fmt.Sprintf("ring=%x iopl=%x dx=3F8 eax=41", ring, iopl))
				e := s.env(t)
				want, sent := none, sends
				if ring > iopl {
					want.F, sent = api.Fault{Vec: 13}, ""
				}
				if out := exec.Do(e, inst(t, bytesOf(code))); out != want || string(e.Bus.Sent()) != sent {
					t.Errorf("%s, ring %d, IOPL %d: %+v", code, ring, iopl, out)
				}
				if want.F.Vec == 13 && e.Cpu != s.cpu {
					t.Errorf("%s: %s", code, unlike(e.Cpu, s.cpu))
				}
			}
		}
	}
}

// P17.3, IFlag: each Sub, and Shadow of the last one, if IF was not set.
func TestFlags(t *testing.T) {
	runAll(t, []row{
		{"F8", "set=CF", "clr=CF"},
		{"F8", "clr=CF", ""},
		{"F9", "clr=CF", "set=CF"},
		{"F9", "set=CF", ""},
		{"F5", "clr=CF", "set=CF"},
		{"F5", "set=CF", "clr=CF"},
		{"FC", "set=DF", "clr=DF"},
		{"FC", "clr=DF", ""},
		{"FD", "clr=DF", "set=DF"},
		{"FD", "set=DF", ""},
		{"FA", "set=IF iopl=0", "clr=IF"},
		{"FA", "clr=IF iopl=0", ""},
		{"FB", "clr=IF iopl=0", "set=IF shadow"},
		{"FB", "set=IF iopl=0", ""},
		{"FB", "clr=IF shadow", "set=IF shadow"},
		{"FB", "set=IF shadow", ""},
		{"FA", "set=IF shadow", "clr=IF"},
	})
	for ring := range 4 {
		for iopl := range 4 {
			before := fmt.Sprintf("ring=%x iopl=%x", ring, iopl)
			clear, set := "clr=IF", "set=IF shadow"
			if ring > iopl {
				clear, set = "#GP(0)", "#GP(0)"
			}
			runAll(t, []row{
				{"FA", before + " set=IF", clear}, {"FB", before + " clr=IF", set},
				{"F8", before, "clr=CF"}, {"F9", before, "set=CF"}, {"FC", before, "clr=DF"}, {"FD", before, "set=DF"},
			})
		}
	}
}

// P17.3: what only ring 0 may, whatever IOPL is; that is asked ahead of all else.
func TestWhatTheInnerRingMay(t *testing.T) {
	for _, x := range []row{
		{"F4", "", "halted"},
		{"0F 06", "cr0=9", "cr0=1"},
		{"0F 01 16", "2000:341278563412", "gdt.limit=1234 gdt.base=12345678"},
		{"0F 01 1E", "2000:341278563412", "idt.limit=1234 idt.base=12345678"},
		{"0F 00 DB", "bx=60", "tr=60"},
		{"0F 20 C3", "", "ebx=1"},
		{"0F 22 C3", "ebx=11", "cr0=11"},
		{"0F 22 D3", "ebx=11", "cr2=11"},
		{"0F 22 DB", "ebx=11", "cr3=11"},
		{"0F 01 3E", "", ""},
	} {
		x.run(t)
		for ring := 1; ring < 4; ring++ {
			for _, iopl := range []int{0, 3} {
				row{x.code, fmt.Sprintf("%s ring=%x iopl=%x", x.before, ring, iopl), "#GP(0)"}.run(t)
			}
		}
	}
	runAll(t, []row{
		{"0F 01 54 24 00", "ss.null", "#SS(0)"},
		{"0F 01 54 24 00", "ss.null ring=3", "#GP(0)"},
		{"0F 00 5C 24 00", "ss.null", "#SS(0)"},
		{"0F 00 5C 24 00", "ss.null ring=3", "#GP(0)"},
		{"0F 00 DB", "bx=70 ring=3", "#GP(0)"},
	})
}

// P17.3, IClts, ILgdt, ILidt, IMovcr, IInvlpg, INop.
func TestSystem(t *testing.T) {
	runAll(t, []row{
		{"F4", "halted", "halted"},
		{"0F 06", "cr0=FFFFFFFF", "cr0=FFFFFFF7"},
		{"0F 06", "cr0=1", ""},
		{"0F 01 16", "2000:FFFFFFFFFFFF", "gdt.limit=FFFF gdt.base=FFFFFFFF"},
		{"66 0F 01 16", "2000:341278563412", "gdt.limit=1234 gdt.base=12345678"},
		{"0F 01 16", "ds=28 2000:341278563412", "gdt.limit=1234 gdt.base=12345678"},
		{"0F 01 54 24 10", "ss.base=100 9110:341278563412", "gdt.limit=1234 gdt.base=12345678"},
		{"64 0F 01 1E", "fs.base=100 2100:341278563412", "idt.limit=1234 idt.base=12345678"},
		{"0F 01 16", "esi=FFFFFFFE ds.base=2002 2000:341278563412", "gdt.limit=1234 gdt.base=12345678"},
		{"0F 01 1E", "esi=FFFFFFFE ds.base=2002 2000:341278563412", "idt.limit=1234 idt.base=12345678"},
		{"0F 01 16", "esi=FFFFFFFC ds.base=2004 2000:341278563412", "#GP(0)"},
		{"0F 01 16", "ds.limit=2005 2000:341278563412", "gdt.limit=1234 gdt.base=12345678"},
		{"0F 01 16", "ds.limit=2004", "#GP(0)"},
		{"0F 01 1E", "ds.limit=2004", "#GP(0)"},
		{"0F 01 1E", "ds.limit=2000", "#GP(0)"},
		{"0F 01 16", "ds=0", "#GP(0)"},

		{"0F 20 C3", "cr0=12345679", "ebx=12345679"},
		{"0F 20 D4", "cr2=12345678", "esp=12345678"},
		{"0F 20 DF", "cr3=12345678", "edi=12345678"},
		{"0F 20 03", "cr0=12345679", "ebx=12345679"},
		{"0F 22 C3", "ebx=7FFFFFFF", "cr0=7FFFFFFF"},
		{"0F 22 C3", "ebx=80000001", "cr0=80000001"},
		{"0F 22 C3", "ebx=80000000", "#GP(0)"},
		{"0F 22 C3", "ebx=0", "#GP(0)"},
		{"0F 22 C3", "ebx=FFFFFFFE", "#GP(0)"},
		{"0F 22 D3", "ebx=FFFFFFFE", "cr2=FFFFFFFE"},
		{"0F 22 DB", "ebx=FFFFFFFE", "cr3=FFFFFFFE"},
		{"0F 22 DB", "ebx=0", "cr3=0"},
		{"0F 22 D3", "ebx=0", "cr2=0"},
		{"0F 22 1B", "ebx=12345678", "cr3=12345678"},

		{"0F 01 3E", "ds=0", ""},
		{"0F 01 3E", "ds.limit=0 ds.base=FFFFFFFF", ""},
		{"90", "", ""},
		{"66 90", "", ""},
	})
}

// P17.3, ILtr: each kind of descriptor; nothing is written into the table.
func TestTasks(t *testing.T) {
	runAll(t, []row{
		{"0F 00 DB", "ebx=12340060", "tr=60"},
		{"0F 00 DB", "bx=63", "tr=63"},
		{"0F 00 1E", "2000:6000", "tr=60"},
		{"66 0F 00 1E", "2000:6100 ds.limit=2001", "tr=61"},
		{"0F 00 1E", "ds.limit=2000", "#GP(0)"},
		{"0F 00 DB", "bx=60 tr.null", "tr=60"},
		{"0F 00 DB", "bx=0", "#GP(0)"},
		{"0F 00 DB", "bx=3", "#GP(0)"},
		{"0F 00 DB", "bx=0 800:6700006000890012", "#GP(0)"},
		{"0F 00 DB", "bx=3 800:6700006000890012", "#GP(0)"},
		{"0F 00 DB", "bx=64", "#GP(64)"},
		{"0F 00 DB", "bx=67", "#GP(64)"},
		{"0F 00 DB", "bx=C8", "#GP(C8)"},
		{"0F 00 DB", "bx=63 gdt.limit=66", "#GP(60)"},
		{"0F 00 DB", "bx=63 gdt.limit=67", "tr=63"},
		{"0F 00 DB", "bx=68", "#GP(68)"},
		{"0F 00 DB", "bx=73", "#NP(70)"},
		{"0F 00 DB", "bx=70", "#NP(70)"},
		{"0F 00 DB", "bx=78", "#GP(78)"},
		{"0F 00 DB", "bx=98", "#GP(98)"},
		{"0F 00 DB", "bx=A8", "#GP(A8)"},
		{"0F 00 DB", "bx=A3", "#GP(A0)"},
		{"0F 00 DB", "bx=8", "#GP(8)"},
		{"0F 00 DB", "bx=10", "#GP(10)"},
	})
}
