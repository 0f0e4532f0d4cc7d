package except_test

import (
	"fmt"
	"math"
	"testing"

	"drawloom/api"
	"drawloom/except"
	"drawloom/segment"
)

// The tests' own table: what its words say is what is said beside them.
func TestEntries(t *testing.T) {
	for sel, e := range entries() {
		if d := segment.Parse(e.lo, e.hi); d != e.d {
			t.Errorf("%#x: %+v; want %+v", sel, d, e.d)
		}
	}
}

// P18.1: of the same ring: what is pushed, in which order, and what the processor is then.
func TestEnter(t *testing.T) {
	runAll(t, []row{
		{"enter 3", "", "to14=6030 stack=8FF4:100,8,@"},
		{"enter 3 soft", "", "to14=6030 stack=8FF4:100,8,@"},
		{"enter 3 code=5", "", "to14=6030 stack=8FF0:5,100,8,@"},
		{"enter 3 code=0", "", "to14=6030 stack=8FF0:0,100,8,@"},
		{"enter 3 soft code=FFFFFFFF", "", "to14=6030 stack=8FF0:FFFFFFFF,100,8,@"},
		{"enter 3", "gate=3:8:6030:8F00", "to15=6030 stack=8FF4:100,8,@"},
		{"enter 3 soft code=7", "gate=3:8:6030:8F00", "to15=6030 stack=8FF0:7,100,8,@"},
		{"enter 3", "gate=3:8:12345678:8E00 eip=FEDCBA98", "to14=12345678 stack=8FF4:FEDCBA98,8,@"},
		{"enter 3", "gate=3:8:FFFF0000:8EFF", "to14=FFFF0000 stack=8FF4:100,8,@"},
		{"enter 3", "gate=3:B:6030:8E1F", "to14=6030 stack=8FF4:100,8,@"},
		{"enter 3", "cs=68", "to14=6030 cs=8 stack=8FF4:100,68,@"},
		{"enter 3", "gate=3:68:2000:8E00", "to14=2000 cs=68 stack=8FF4:100,8,@"},
		{"enter 3", "gate=3:69:2000:8E00", "to14=2000 cs=68 stack=8FF4:100,8,@"},
		{"enter 3", "cs.null", "to14=6030 cs=8 stack=8FF4:100,8,@"},
		{"enter 3", "cs.limit=0 cs.absent cs.dpl=3", "to14=6030 cs=8 stack=8FF4:100,8,@"},
		{"enter 3", "ss.base=1000", "to14=6030 words=9FF4:100,8,@ esp=8FF4"},
		{"enter 3", "ss=78", "to14=6030 stack=8FF4:100,8,@"},
		{"enter 3", "tr=0 es=0 ds=0 fs=0 gs=0 eax=0 cr0=FFFF", "to14=6030 stack=8FF4:100,8,@"},
		{"enter 3", "esp=FFFFFFFE ss.base=9002", "to14=6030 words=8FF4:100,8,@ esp=FFFFFFF2"},
	})
}

// P18.1: the ring is what CS' selector says, whatever SS' one and the descriptors say.
func TestRingIsOfCode(t *testing.T) {
	const inner = "to14=6030 cs=8 ss=10 stack=6FEC:100,B,@,9000,10"
	runAll(t, []row{
		{"enter 3", "ring=3", inner},
		{"enter 3 soft", "ring=3 gate=3:8:6030:EE00", inner},
		{"enter 3 soft", "ring=3", "#GP(1A)"},
		{"enter 3", "ring=3 gate=3:38:6030:8E00", "to14=6030 cs=3B stack=8FF4:100,B,@"},
		{"enter 3", "ring=1 gate=3:38:6030:8E00", "#GP(39)"},
		{"enter 3", "ss=43", "to14=6030 stack=8FF4:100,8,@"},
		{"enter 3 soft", "ss=43", "to14=6030 stack=8FF4:100,8,@"},
		{"enter 3", "ss=43 gate=3:38:6030:8E00", "#GP(39)"},
		{"enter 3", "cs=38", "to14=6030 cs=8 stack=8FF4:100,38,@"},
	})
}

// P18.1: vectors that are none, of each kind of call.
func TestEnterOfNoVector(t *testing.T) {
	s := fresh()
	s.apply("gate=0:8:6030:8E00 gate=FF:8:6030:8E00", 0)
	for _, vec := range []int{-1, 256, 257, -2, -256, 511, 512, 1 << 16, 1<<16 + 3, 1 << 32, 1<<32 + 3, -1 << 32, 1 << 61, 1<<61 + 3, math.MaxInt, math.MinInt} {
		for _, code := range []int{-1, 0, 5} {
			for _, soft := range []bool{false, true} {
				e := s.env(t)
				want := s.clone()
				want.f = gp(0)
				stateOf(e, except.Enter(e, vec, code, soft)).holds(t, fmt.Sprintf("Enter(%d, %d, %v)", vec, code, soft), want)
			}
		}
	}
}

// P18.1: each vector has its gate, and Idt's Limit may not be below its last byte.
func TestGateOfEachVector(t *testing.T) {
	for vec := range 256 {
		gate := fmt.Sprintf("gate=%x:8:%x:8E00", vec, 0x12340000+vec)
		for _, soft := range []int{0, 1} {
			call := fmt.Sprintf("enter %x%s", vec, []string{"", " soft"}[soft])
			refused := fmt.Sprintf("#GP(%x)", 8*vec+2+1-soft)
			for limit, want := range map[int]string{
				8*vec + 7: fmt.Sprintf("to14=%x stack=8FF4:100,8,@", 0x12340000+vec),
				8*vec + 6: refused,
				8 * vec:   refused,
				0:         refused,
				0xFFFF:    fmt.Sprintf("to14=%x stack=8FF4:100,8,@", 0x12340000+vec),
			} {
				runOnce(t, row{call, fmt.Sprintf("%s idt.limit=%x", gate, limit), want})
			}
		}
	}
	runAll(t, []row{
		{"enter 3", "idt.limit=1F", "to14=6030 stack=8FF4:100,8,@"},
		{"enter 3", "idt.limit=20", "to14=6030 stack=8FF4:100,8,@"},
		{"enter 3", "idt.limit=1E", "#GP(1B)"},
		{"enter 3 soft", "idt.limit=1E", "#GP(1A)"},
		{"enter C8 soft", "idt.limit=1FF", "#GP(642)"},
		{"enter 3", "idt.base=FFFFFFF0 gate=3:8:6030:8E00", "to14=6030 stack=8FF4:100,8,@"},
		{"enter 3", "idt.base=FFFFFFE4 words=0:8E00", "#GP(FFFD)"},
		{"enter 3", "idt.base=4001 gate=3:8:6030:8E00", "to14=6030 stack=8FF4:100,8,@"},
		{"enter 3", "idt.base=FF0000", "#GP(1B)"},
	})
}

// runOnce does a row with one processor, for tests of many rows.
func runOnce(t *testing.T, x row) {
	t.Helper()
	before := fresh()
	before.cpu.Flags = one | fi | tf | nt
	before.apply(x.before, before.cpu.Flags)
	x.runFrom(t, before)
}

// P18.1: each kind of gate, present and not: 14 and 15 alone are gone through.
func TestKindsOfGates(t *testing.T) {
	for kind := range 32 {
		for _, soft := range []int{0, 1} {
			call, code := fmt.Sprintf("enter 3%s", []string{"", " soft"}[soft]), 27-soft
			there, absent := fmt.Sprintf("#GP(%x)", code), fmt.Sprintf("#GP(%x)", code)
			if kind == 14 || kind == 15 {
				there, absent = fmt.Sprintf("to%d=6030 stack=8FF4:100,8,@", kind), fmt.Sprintf("#NP(%x)", code)
			}
			runAll(t, []row{
				{call, fmt.Sprintf("gate=3:8:6030:%x", 0x8000+kind<<8), there},
				{call, fmt.Sprintf("gate=3:8:6030:%x", 0xE0FF+kind<<8), there},
				{call, fmt.Sprintf("gate=3:8:6030:%x", kind<<8), absent},
			})
		}
	}
}

// same is what is then of a gate that leads to the ring's own code.
func same(kind, ring int) string {
	cs := 0x10*ring + 8 + ring
	return fmt.Sprintf("to%d=6030 cs=%x stack=8FF4:100,%x,@", kind, cs, cs)
}

// P18.1: the gate's ring, below, at and above the ring: it counts of soft alone; and ahead of whether the gate is present.
func TestGatesRing(t *testing.T) {
	for ring := range 4 {
		for of := range 4 {
			for kind := 14; kind <= 15; kind++ {
				attributes := 0x8000 + of<<13 + kind<<8
				before := fmt.Sprintf("in=%x gate=3:%x:6030:", ring, 0x10*ring+8)
				there := before + fmt.Sprintf("%x", attributes)
				absent := before + fmt.Sprintf("%x", attributes-0x8000)
				runAll(t, []row{{"enter 3", there, same(kind, ring)}, {"enter 3", absent, "#NP(1B)"}})
				if of < ring {
					runAll(t, []row{{"enter 3 soft", there, "#GP(1A)"}, {"enter 3 soft", absent, "#GP(1A)"}})
				} else {
					runAll(t, []row{{"enter 3 soft", there, same(kind, ring)}, {"enter 3 soft", absent, "#NP(1A)"}})
				}
			}
		}
	}
}

// both runs a row of enter 3, and once more of soft, whose fault's code is one less.
func both(t *testing.T, before, after, afterSoft string) {
	t.Helper()
	row{"enter 3", before, after}.run(t)
	row{"enter 3 soft", before, afterSoft}.run(t)
}

// P18.1: the gate's selector, and the code segment.
func TestCodeOfGates(t *testing.T) {
	const there = "to14=6030 stack=8FF4:100,8,@"
	for _, c := range []struct{ before, after, afterSoft string }{
		{"gate=3:0:6030:8E00", "#GP(1)", "#GP(0)"},
		{"gate=3:1:6030:8E00", "#GP(1)", "#GP(0)"},
		{"gate=3:3:6030:8E00", "#GP(1)", "#GP(0)"},
		{"gate=3:3:6030:8E00 words=800:FFFF,CF9A00", "#GP(1)", "#GP(0)"},
		{"gate=3:4:6030:8E00", "#GP(5)", "#GP(4)"},
		{"gate=3:C:6030:8E00", "#GP(D)", "#GP(C)"},
		{"gate=3:F:6030:8E00", "#GP(D)", "#GP(C)"},
		{"gate=3:C0:6030:8E00", "#GP(C1)", "#GP(C0)"},
		{"gate=3:FFFB:6030:8E00", "#GP(FFF9)", "#GP(FFF8)"},
		{"gdt.limit=F", there, there},
		{"gdt.limit=E", "#GP(9)", "#GP(8)"},
		{"gdt.limit=8", "#GP(9)", "#GP(8)"},
		{"gdt.limit=0", "#GP(9)", "#GP(8)"},
		{"gate=3:B:6030:8E00 gdt.limit=E", "#GP(9)", "#GP(8)"},
		{"gdt.base=FFFFFFF8 words=0:FFFF,CF9A00", there, there},
		{"gdt.base=FFFFFFF4 words=0:CF9A00", there + " cs=8 cs.base=FFFF", there + " cs=8 cs.base=FFFF"},
		{"gate=3:10:6030:8E00", "#GP(11)", "#GP(10)"},
		{"gate=3:88:6030:8E00", "#GP(89)", "#GP(88)"},
		{"gate=3:90:6030:8E00", "#GP(91)", "#GP(90)"},
		{"words=808:FFFF,CF8A00", "#GP(9)", "#GP(8)"},
		{"words=808:FFFF,CF8E00", "#GP(9)", "#GP(8)"},
		{"words=808:FFFF,8F9A00", "#GP(9)", "#GP(8)"},
		{"words=808:FFFF,CF1A00", "#NP(9)", "#NP(8)"},
		{"words=808:FFFF,8F1A00", "#GP(9)", "#GP(8)"},
		{"words=808:FFFF,CF3A00", "#GP(9)", "#GP(8)"},
		{"words=808:FFFF,CF1E00", "#NP(9)", "#NP(8)"},
		{"words=808:FFFF,CF1200", "#GP(9)", "#GP(8)"},
		{"gate=3:68:2FFF:8E00", "to14=2FFF cs=68 stack=8FF4:100,8,@", "to14=2FFF cs=68 stack=8FF4:100,8,@"},
		{"gate=3:68:3000:8E00", "#GP(1)", "#GP(0)"},
		{"gate=3:68:FFFFFFFF:8E00", "#GP(1)", "#GP(0)"},
		{"gate=3:68:3000:8E00 words=868:20002FFF,401900", "#NP(69)", "#NP(68)"},
		{"gate=3:8:FFFFFFFF:8E00", "to14=FFFFFFFF stack=8FF4:100,8,@", "to14=FFFFFFFF stack=8FF4:100,8,@"},
		{"in=3 gate=3:8:10000:EE00 words=808:FFFF,409A00 tr.limit=0", "#GP(1)", "#GP(0)"},
	} {
		both(t, c.before, c.after, c.afterSoft)
	}
}

// P18.1: code of each Dpl, conforming and not, from each ring: which stack, which ring, or a fault.
func TestRingsOfCode(t *testing.T) {
	tops := []uint32{0x7000, 0x7400, 0x7800}
	for ring := range 4 {
		for dpl := range 4 {
			for asked := range 4 {
				plain, conforming := 0x10*dpl+8, 8*dpl+0x48
				before := fmt.Sprintf("in=%x gate=3:", ring)
				old := fmt.Sprintf("100,%x,@", 0x10*ring+8+ring)
				inRing := fmt.Sprintf("to14=6030 cs=%x stack=8FF4:%s", conforming+ring, old)
				if dpl > ring {
					inRing = fmt.Sprintf("#GP(%x)", conforming+1)
				}
				row{"enter 3", before + fmt.Sprintf("%x:6030:EE00", conforming+asked), inRing}.run(t)
				there := fmt.Sprintf("to14=6030 cs=%x stack=8FF4:%s", plain+ring, old)
				if dpl > ring {
					there = fmt.Sprintf("#GP(%x)", plain+1)
				}
				if dpl < ring {
					inner := fmt.Sprintf("to14=6030 cs=%x ss=%x stack=", plain+dpl, 0x10*dpl+0x10+dpl)
					there = inner + fmt.Sprintf("%x:%s,9000,%x", tops[dpl]-20, old, 0x10*ring+0x10+ring)
					row{"enter 3 code=8", before + fmt.Sprintf("%x:6030:EE00", plain+asked), inner + fmt.Sprintf("%x:8,%s,9000,%x", tops[dpl]-24, old, 0x10*ring+0x10+ring)}.run(t)
				}
				row{"enter 3", before + fmt.Sprintf("%x:6030:EE00", plain+asked), there}.run(t)
			}
		}
	}
}

// P18.1: the other stack: Tr's words, the selector, the segment.
func TestOtherStack(t *testing.T) {
	const there = "to14=6030 cs=8 ss=10 stack=6FEC:100,3B,@,9000,43"
	const second = "to14=6030 cs=19 ss=21 stack=73EC:100,3B,@,9000,43"
	const third = "to14=6030 cs=2A ss=32 stack=77EC:100,3B,@,9000,43"
	for _, c := range []struct{ before, after, afterSoft string }{
		{"", there, there},
		{"tr.limit=B", there, there},
		{"tr.limit=A", "#TS(89)", "#TS(88)"},
		{"tr.limit=0", "#TS(89)", "#TS(88)"},
		{"tr.limit=FFFFFFFF", there, there},
		{"tr=0", "#TS(1)", "#TS(0)"},
		{"gate=3:18:6030:EE00 tr.limit=13", second, second},
		{"gate=3:18:6030:EE00 tr.limit=12", "#TS(89)", "#TS(88)"},
		{"gate=3:28:6030:EE00 tr.limit=1B", third, third},
		{"gate=3:28:6030:EE00 tr.limit=1A", "#TS(89)", "#TS(88)"},
		{"tr.null tr.absent tr.dpl=2 tr.type=2", there, there},
		{"ss.null", there, there},
		{"ss.absent ss.limit=0", there, there},
		{"tr.base=FFFFFFF8 words=0:10", "to14=6030 cs=8 ss=10 esp=FFFFFFEB", "to14=6030 cs=8 ss=10 esp=FFFFFFEB"},
		{"tr.base=FFFFFFFC words=0:7000,10", there, there},
		{"words=1408:0", "#TS(1)", "#TS(0)"},
		{"words=1408:ABCD0000", "#TS(1)", "#TS(0)"},
		{"words=1408:3", "#TS(1)", "#TS(0)"},
		{"words=1408:3 words=800:FFFF,CFF200", "#TS(1)", "#TS(0)"},
		{"words=1408:14", "#TS(15)", "#TS(14)"},
		{"words=1408:17", "#TS(15)", "#TS(14)"},
		{"words=1408:C0", "#TS(C1)", "#TS(C0)"},
		{"words=1408:FFF8", "#TS(FFF9)", "#TS(FFF8)"},
		{"gdt.limit=17", there, there},
		{"gdt.limit=16", "#TS(11)", "#TS(10)"},
		{"gdt.limit=F", "#TS(11)", "#TS(10)"},
		{"words=1408:11", "#TS(11)", "#TS(10)"},
		{"words=1408:13", "#TS(11)", "#TS(10)"},
		{"words=1408:43", "#TS(41)", "#TS(40)"},
		{"words=1408:20", "#TS(21)", "#TS(20)"},
		{"words=1408:8", "#TS(9)", "#TS(8)"},
		{"words=1408:70", "#TS(71)", "#TS(70)"},
		{"words=1408:88", "#TS(89)", "#TS(88)"},
		{"words=810:FFFF,CF8200", "#TS(11)", "#TS(10)"},
		{"words=810:FFFF,CF1200", "#SS(11)", "#SS(10)"},
		{"words=810:FFFF,CF1000", "#TS(11)", "#TS(10)"},
		{"words=810:FFFF,CF3200", "#TS(11)", "#TS(10)"},
		{"words=1408:12 words=810:FFFF,CF1200", "#TS(11)", "#TS(10)"},
		{"gate=3:18:6030:EE00 words=1410:20", "#TS(21)", "#TS(20)"},
		{"gate=3:18:6030:EE00 words=1410:22", "#TS(21)", "#TS(20)"},
		{"gate=3:18:6030:EE00 words=1410:11", "#TS(11)", "#TS(10)"},
		{"gate=3:18:6030:EE00 words=1410:31", "#TS(31)", "#TS(30)"},
		{"gate=3:28:6030:EE00 words=1418:BA", "#TS(B9)", "#TS(B8)"},
		{"words=1408:78", "to14=6030 cs=8 ss=78 stack=6FEC:100,3B,@,9000,43", "to14=6030 cs=8 ss=78 stack=6FEC:100,3B,@,9000,43"},
		{"words=1404:6FF4,78", "to14=6030 cs=8 ss=78 stack=6FE0:100,3B,@,9000,43", "to14=6030 cs=8 ss=78 stack=6FE0:100,3B,@,9000,43"},
		{"words=1404:6FF0,78", "#SS(0) words=6FE0:3B,@,9000,43", "#SS(0) words=6FE0:3B,@,9000,43"},
		{"words=1404:1000,80", "to14=6030 cs=8 ss=80 stack=FEC:100,3B,@,9000,43", "to14=6030 cs=8 ss=80 stack=FEC:100,3B,@,9000,43"},
		{"words=1404:1001,80", "#SS(0)", "#SS(0)"},
	} {
		both(t, "in=3 gate=3:8:6030:EE00 "+c.before, c.after, c.afterSoft)
	}
}

// pushes is what a rig's memory becomes by pushes from a place on, each of which must lie below 2^32; whether all did.
func (s *state) pushes(words []uint32) bool {
	esp := &s.cpu.R[api.Esp]
	for _, v := range words {
		at := *esp - 4
		if uint64(at)+4 > 1<<32 {
			return false
		}
		s.lay(at, v)
		*esp = at
	}
	return true
}

// P18.1: ESP from 0 to 28, round 2^32, of the same stack and of another one: what was pushed ahead of the fault stays.
func TestStackAtItsEnd(t *testing.T) {
	for esp := range uint32(29) {
		for _, call := range []string{"enter 3", "enter 3 code=FEDC"} {
			before := fresh()
			before.cpu.R[api.Esp] = esp
			pushed := []uint32{one, 8, 0x100}
			checkPushes(t, before, call, pushed, "")

			before = fresh()
			before.apply("in=3", 0)
			before.lay(taskBase+4, esp)
			pushed = append([]uint32{0x43, 0x9000}, one, 0x3B, 0x100)
			checkPushes(t, before, call, pushed, fmt.Sprintf("cs=8 ss=10 esp=%x", esp))
		}
	}
}

func checkPushes(t *testing.T, before state, call string, pushed []uint32, then string) {
	t.Helper()
	if call != "enter 3" {
		pushed = append(pushed, 0xFEDC)
	}
	want := before.clone()
	want.apply(then, 0)
	if want.pushes(pushed) {
		want.apply("to14=6030", 0)
	} else {
		want.cpu, want.f = before.cpu, api.Fault{Vec: 12}
	}
	e := before.env(t)
	stateOf(e, do(e, call)).holds(t, fmt.Sprintf("%s, ESP %#x, the task's %#x", call, before.cpu.R[api.Esp], before.mem[taskBase+4]), want)
}

// P18.1: a fault of pushing is the fault, whatever it is of: its code is not ours.
func TestFaultsOfPushing(t *testing.T) {
	runAll(t, []row{
		{"enter 3", "ss.limit=8FFF", "to14=6030 stack=8FF4:100,8,@"},
		{"enter 3", "ss.limit=8FFE", "#SS(0)"},
		{"enter 3", "ss.limit=8FFB", "#SS(0)"},
		{"enter 3 soft", "ss.limit=8FFE", "#SS(0)"},
		{"enter 3", "ss=78 ss.limit=8FF3", "to14=6030 stack=8FF4:100,8,@"},
		{"enter 3 code=1", "ss=78 ss.limit=8FF3", "#SS(0) words=8FF4:100,8,@"},
		{"enter 3", "ss=78 ss.limit=8FF4", "#SS(0) words=8FF8:8,@"},
		{"enter 3", "ss=78 ss.limit=8FF8", "#SS(0) words=8FFC:@"},
		{"enter 3", "ss=78 ss.limit=8FFC", "#SS(0)"},
		{"enter 3", "ss.null", "#SS(0)"},
		{"enter 3", "ss=70", "#SS(0)"},
		{"enter 3", "ss=8", "#SS(0)"},
		{"enter 3", "ss.absent", "#SS(0)"},
		{"enter 3", "ss.dpl=3", "to14=6030 stack=8FF4:100,8,@"},
		{"enter 3", "ss=0", "#SS(0)"},
		{"enter 3", "in=3 gate=3:48:6030:EE00 ss.null", "#SS(0)"},
	})
	runPaged(t, []row{
		{"enter 3", "esp=8004 B01C:00000000", "#PF(2,7FFC) words=8000:@"},
		{"enter 3", "esp=8008 B01C:00000000", "#PF(2,7FFC) words=8000:8,@"},
		{"enter 3", "esp=800C B01C:00000000", "to14=6030 stack=8000:100,8,@"},
		{"enter 3 code=0", "esp=800C B01C:00000000", "#PF(2,7FFC) words=8000:100,8,@"},
		{"enter 3", "esp=8002 B01C:00000000", "#PF(2,7FFE)"},
		{"enter 3", "esp=8002 B020:00000000", "#PF(2,8000)"},
		{"enter 3", "esp=8006 B01C:00000000", "#PF(2,7FFE) words=8002:@"},
		{"enter 3", "esp=8000 B01C:65700000", "to14=6030 stack=7FF4:100,8,@"},
		{"enter 3", "esp=8000 B01C:65700000 cr0=80010001", "#PF(3,7FFC)"},
		{"enter 3", "esp=8000 B01C:63700000 cr0=80010001", "to14=6030 stack=7FF4:100,8,@"},
		{"enter 3", "in=3 gate=3:8:6030:8E00 B018:63600000", "to14=6030 cs=8 ss=10 stack=6FEC:100,3B,@,9000,43"},
		{"enter 3", "in=3 gate=3:8:6030:8E00 B018:65600000", "to14=6030 cs=8 ss=10 stack=6FEC:100,3B,@,9000,43"},
		{"enter 3", "in=3 gate=3:8:6030:8E00 B018:65600000 cr0=80010001", "#PF(3,6FFC)"},
		{"enter 3", "in=3 gate=3:8:6030:8E00 B018:00000000", "#PF(2,6FFC)"},
		{"enter 3", "in=3 gate=3:8:6030:8E00 words=1404:7008 B018:00000000", "#PF(2,6FFC) words=7000:9000,43"},
		{"enter 3", "in=3 gate=3:38:6030:8E00 B020:63800000", "#PF(7,8FFC)"},
		{"enter 3", "in=3 gate=3:38:6030:8E00 B020:65800000", "#PF(7,8FFC)"},
		{"enter 3", "in=3 gate=3:38:6030:8E00 B020:00000000", "#PF(6,8FFC)"},
		{"enter 3", "in=3 gate=3:48:6030:8E00 B020:63800000", "#PF(7,8FFC)"},
		{"enter 3", "in=2 gate=3:48:6030:8E00 B020:63800000", "to14=6030 cs=4A stack=8FF4:100,2A,@"},
	})
}

// P18.1: the tables are read by the processor itself, as the supervisor; what is read is marked, also ahead of a fault.
func TestMarksOfEntering(t *testing.T) {
	const inner = "in=3 gate=3:8:6030:8E00 idt.base=3FE8 gate=3:8:6030:8E00 "
	runPaged(t, []row{
		{"enter 3", "in=3 gate=3:38:6030:8E00 B000:63000000 B004:63100000", "to14=6030 stack=8FF4:100,3B,@"},
		{"enter 3", "in=3 gate=3:8:6030:8E00 B000:63000000 B004:63100000", "to14=6030 cs=8 ss=10 stack=6FEC:100,3B,@,9000,43"},
		{"enter 3", "B000:07000000 B020:07800000", "to14=6030 stack=8FF4:100,8,@ B000:27000000 B020:67800000"},
		{"enter 3", "idt.limit=0 B000:07000000 B020:07800000", "#GP(1B)"},
		{"enter 3", "gate=3:8:6030:8D00 B000:07000000 B020:07800000", "#GP(1B) B000:27000000"},
		{"enter 3", "idt.base=3FE8 gate=3:8:6030:8E00 B00C:07300000 B010:07400000 gdt.limit=0", "#GP(9) B010:27400000"},
		{"enter 3", "idt.base=3FE4 gate=3:8:6030:8E00 B00C:07300000 B010:07400000 gdt.limit=0", "#GP(9) B00C:27300000 B010:27400000"},
		{"enter 3", "idt.base=3FE4 gate=3:8:6030:8E00 B00C:07300000 B010:00000000", "#PF(0,4000) B00C:27300000"},
		{"enter 3", "idt.base=3FE2 gate=3:8:6030:8E00 B00C:07300000 B010:00000000", "#PF(0,4000) B00C:27300000"},
		{"enter 3", "idt.base=3FE4 gate=3:8:6030:8E00 B00C:00000000 B010:07400000", "#PF(0,3FFC)"},
		{"enter 3", inner + "B010:07400000 B000:07000000 tr.limit=0", "#TS(89) B010:27400000 B000:27000000"},
		{"enter 3", inner + "B010:07400000 B000:00000000", "#PF(0,808) B010:27400000"},
		{"enter 3", inner + "B004:07100000 B018:07600000", "to14=6030 cs=8 ss=10 stack=6FEC:100,3B,@,9000,43 B004:27100000 B018:67600000"},
		{"enter 3", inner + "B004:00000000 B018:07600000", "#PF(0,1404)"},
		{"enter 3", inner + "B004:07100000 B018:07600000 words=1408:0", "#TS(1) B004:27100000"},
		{"enter 3", inner + "words=2FFC:7000,10 tr.base=2FF8 B008:07200000 B00C:00000000", "#PF(0,3000) B008:27200000"},
		{"enter 3", inner + "words=2FFC:7000,10 tr.base=2FF8 B008:07200000 B00C:07300000 B018:07600000", "to14=6030 cs=8 ss=10 stack=6FEC:100,3B,@,9000,43 B008:27200000 B00C:27300000 B018:67600000"},
		{"enter 3", inner + "words=2FFA:7000,10 tr.base=2FF6 B008:07200000 B00C:00000000", "to14=6030 cs=8 ss=10 stack=6FEC:100,3B,@,9000,43 B008:27200000"},
		{"enter 3", inner + "words=2FFB:7000,10 tr.base=2FF7 B008:07200000 B00C:00000000", "#PF(0,3000) B008:27200000"},
		{"enter 3", inner + "words=2FFE:7000,10 tr.base=2FFA B008:07200000 B00C:00000000", "#PF(0,3000) B008:27200000"},
		{"enter 3", inner + "words=1408:20 gdt.base=2FDC words=2FE4:FFFF,CF9A00 B008:07200000 B00C:00000000", "#PF(0,3000) B008:27200000"},
	})
}
