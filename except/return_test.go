package except_test

import (
	"fmt"
	"math"
	"testing"

	"drawloom/api"
	"drawloom/except"
	"drawloom/exec"
)

// P18.3: to the same ring, of both sizes.
func TestReturn(t *testing.T) {
	runAll(t, []row{
		{"return 4", "stack=9000:500,8,@", "back=500 cs=8 esp=900C"},
		{"return 2", "halves=9000:500,8,@", "back=500 cs=8 esp=9006"},
		{"return 4", "stack=9000:12345678,ABCD0008,@", "back=12345678 cs=8 esp=900C"},
		{"return 4", "stack=9000:FFFFFFFF,8,@", "back=FFFFFFFF cs=8 esp=900C"},
		{"return 2", "halves=9000:FFFF,8,@", "back=FFFF cs=8 esp=9006"},
		{"return 4", "stack=9000:500,48,@", "back=500 cs=48 esp=900C"},
		{"return 4", "in=1 stack=9000:500,19,@ iopl=3", "back=500 cs=19 esp=900C"},
		{"return 4", "in=3 stack=9000:500,3B,@ iopl=3", "back=500 cs=3B esp=900C"},
		{"return 2", "in=3 halves=9000:500,3B,@ iopl=3", "back=500 cs=3B esp=9006"},
		{"return 4", "in=3 cs=A3 stack=9000:500,3B,@ iopl=3", "back=500 cs=3B esp=900C"},
		{"return 4", "cs.null stack=9000:500,8,@", "back=500 cs=8 esp=900C"},
		{"return 4", "ss.base=1000 words=A000:500,8,@", "back=500 cs=8 esp=900C"},
		{"return 4", "ss=70 stack=9000:500,8,@", "back=500 cs=8 esp=900C"},
		{"return 4", "ss.limit=900B stack=9000:500,8,@", "back=500 cs=8 esp=900C"},
		{"return 4", "ss.limit=900A stack=9000:500,8,@", "#SS(0)"},
		{"return 4", "ss.limit=9007 stack=9000:500,8,@", "#SS(0)"},
		{"return 4", "ss.limit=9002 stack=9000:500,8,@", "#SS(0)"},
		{"return 2", "ss.limit=9005 halves=9000:500,8,@", "back=500 cs=8 esp=9006"},
		{"return 2", "ss.limit=9004 halves=9000:500,8,@", "#SS(0)"},
		{"return 4", "ss.null stack=9000:500,8,@", "#SS(0)"},
		{"return 4", "ss.absent stack=9000:500,8,@", "#SS(0)"},
		{"return 4", "words=0:500,8,@ esp=FFFFFFFE ss.base=2", "#SS(0)"},
		{"return 4", "words=0:500,8,@ esp=FFFFFFF8 ss.base=8", "back=500 cs=8 esp=4"},
		{"return 4", "words=8000:500,8,@ esp=FFFFFFF4 ss.base=800C", "back=500 cs=8 esp=0"},
		{"return 2", "halves=8000:500,8,@ esp=FFFFFFFA ss.base=8006", "back=500 cs=8 esp=0"},
		{"return 4", "es=0 ds=0 fs=0 gs=0 tr=0 stack=9000:500,8,@", "back=500 cs=8 esp=900C"},
		{"return 4", "es=40 ds=88 fs=B0 gs=98 stack=9000:500,8,@", "back=500 cs=8 esp=900C"},
	})
}

// P18.3: the ring is what CS' selector says, whatever SS' one says.
func TestReturnByCodesRing(t *testing.T) {
	const noData = "es=0 ds=0 fs=0 gs=0 iopl=3 "
	runAll(t, []row{
		{"return 4", "ring=3 stack=9000:500,8,@,7777,10", "#GP(8)"},
		{"return 4", "ring=2 stack=9000:500,19,@,7777,21", "#GP(18)"},
		{"return 4", noData + "ring=3 stack=9000:500,3B,@,7777,43", "back=500 cs=3B esp=900C"},
		{"return 4", noData + "ring=2 stack=9000:500,3B,@,7777,43", "back=500 cs=3B ss=43 esp=7777"},
		{"return 4", "ss=43 stack=9000:500,8,@", "back=500 cs=8 esp=900C"},
		{"return 4", "es=0 ds=0 fs=0 gs=0 ss=43 stack=9000:500,3B,@,7777,43", "back=500 cs=3B ss=43 esp=7777"},
	})
}

// P18.3: sizes that are none, of both kinds of stacks.
func TestReturnOfNoSize(t *testing.T) {
	s := fresh()
	s.apply("stack=9000:500,8,2,9000,10", 0)
	for _, size := range []int{0, 1, 3, 5, 6, 8, 16, -1, -2, -4, 256 + 4, 1<<32 + 2, 1<<32 + 4, math.MaxInt, math.MinInt} {
		e := s.env(t)
		want := s.clone()
		want.f = gp(0)
		stateOf(e, except.Return(e, size)).holds(t, fmt.Sprintf("Return(%d)", size), want)
	}
}

// P18.3: with NT nothing is gone back to.
func TestReturnWithNT(t *testing.T) {
	runAll(t, []row{
		{"return 4", "stack=9000:500,8,@ set=NT", "#GP(0)"},
		{"return 2", "halves=9000:500,8,@ set=NT", "#GP(0)"},
		{"return 4", "stack=9000:500,8,@ set=NT ss.null", "#GP(0)"},
		{"return 4", "in=3 stack=9000:500,3B,@ set=NT", "#GP(0)"},
		{"return 4", "stack=9000:500,8,4000 flags=2", "back=500 flags=4002 cs=8 esp=900C"},
	})
}

// P18.3: the selector, and the code segment.
func TestCodeOfReturns(t *testing.T) {
	runAll(t, []row{
		{"return 4", "stack=9000:500,0,@", "#GP(0)"},
		{"return 4", "stack=9000:500,3,@,9000,43", "#GP(0)"},
		{"return 4", "stack=9000:500,0,@ words=800:FFFF,CF9A00", "#GP(0)"},
		{"return 4", "stack=9000:500,ABCD0000,@ words=800:FFFF,CF9A00", "#GP(0)"},
		{"return 4", "in=3 stack=9000:500,3,@ words=800:FFFF,CFFA00", "#GP(0)"},
		{"return 4", "stack=9000:500,C,@", "#GP(C)"},
		{"return 4", "stack=9000:500,F,@,9000,43", "#GP(C)"},
		{"return 4", "stack=9000:500,C0,@", "#GP(C0)"},
		{"return 4", "stack=9000:500,FFFB,@", "#GP(FFF8)"},
		{"return 4", "gdt.limit=F stack=9000:500,8,@", "back=500 cs=8 esp=900C"},
		{"return 4", "gdt.limit=E stack=9000:500,8,@", "#GP(8)"},
		{"return 2", "gdt.limit=E halves=9000:500,8,@", "#GP(8)"},
		{"return 4", "in=3 gdt.limit=3E stack=9000:500,3B,@", "#GP(38)"},
		{"return 4", "stack=9000:500,10,@", "#GP(10)"},
		{"return 4", "stack=9000:500,88,@", "#GP(88)"},
		{"return 4", "words=808:FFFF,CF8A00 stack=9000:500,8,@", "#GP(8)"},
		{"return 4", "words=808:FFFF,8F9A00 stack=9000:500,8,@", "#GP(8)"},
		{"return 4", "words=808:FFFF,8F1A00 stack=9000:500,8,@", "#GP(8)"},
		{"return 4", "words=808:FFFF,CF1A00 stack=9000:500,8,@", "#NP(8)"},
		{"return 4", "words=808:FFFF,CF1E00 stack=9000:500,8,@", "#NP(8)"},
		{"return 4", "words=808:FFFF,CF3A00 stack=9000:500,8,@", "#GP(8)"},
		{"return 4", "in=3 words=838:FFFF,CF7A00 stack=9000:500,3B,@", "#NP(38)"},
		{"return 4", "stack=9000:2FFF,68,@", "back=2FFF cs=68 esp=900C"},
		{"return 4", "stack=9000:3000,68,@", "#GP(0)"},
		{"return 2", "halves=9000:2FFF,68,@", "back=2FFF cs=68 esp=9006"},
		{"return 2", "halves=9000:3000,68,@", "#GP(0)"},
		{"return 4", "in=3 stack=9000:2FFF,A3,@ iopl=3", "back=2FFF cs=A3 esp=900C"},
		{"return 4", "in=3 stack=9000:3000,A3,@ iopl=3", "#GP(0)"},
		{"return 4", "stack=9000:2FFF,A3,@,7777,43 es=0 ds=0 fs=0 gs=0", "back=2FFF cs=A3 ss=43 esp=7777"},
		{"return 4", "stack=9000:3000,A3,@,7777,43 es=0 ds=0 fs=0 gs=0", "#GP(0)"},
		{"return 4", "stack=9000:3000,A3,@,7777,3", "#GP(0)"},
		{"return 4", "stack=9000:3000,A3,@,7777,42", "#GP(40)"},
		{"return 4", "gdt.base=FFFFFFF8 words=0:FFFF,CF9A00 stack=9000:500,8,@", "back=500 cs=8 esp=900C"},
	})
}

// P18.3: code of each Dpl, conforming and not, by selectors of each ring, from each ring: further in never, and of the same ring without another stack.
func TestRingsOfReturns(t *testing.T) {
	for ring := range 4 {
		for dpl := range 4 {
			for outer := range 4 {
				plain, conforming := 0x10*dpl+8, 8*dpl+0x48
				ss := 0x10*outer + 0x10 + outer
				before := fmt.Sprintf("in=%x iopl=3 es=0 ds=0 fs=0 gs=0 stack=9000:500,%%x,@,7777,%x", ring, ss)
				then := "back=500 cs=%x esp=900C"
				if outer > ring {
					then = "back=500 cs=%x " + fmt.Sprintf("ss=%x esp=7777", ss)
				}
				want := func(is bool, sel int) string {
					if !is {
						return fmt.Sprintf("#GP(%x)", sel)
					}
					return fmt.Sprintf(then, sel+outer)
				}
				for sel, is := range map[int]bool{plain: outer >= ring && dpl == outer, conforming: outer >= ring && dpl <= outer} {
					runOfReturn(t, row{"return 4", fmt.Sprintf(before, sel+outer), want(is, sel)})
				}
			}
		}
	}
}

// runOfReturn does a row with Flags that Return leaves as they are, where IOPL is 3.
func runOfReturn(t *testing.T, x row) {
	t.Helper()
	before := fresh()
	before.cpu.Flags = one | fi | iopl3
	before.apply(x.before, before.cpu.Flags)
	x.runFrom(t, before)
}

// P18.3: the outer ring's stack, of both sizes.
func TestStackOfReturns(t *testing.T) {
	const noData = "es=0 ds=0 fs=0 gs=0 "
	const here = noData + "stack=9000:500,3B,@,"
	runAll(t, []row{
		{"return 4", here + "12345678,43", "back=500 cs=3B ss=43 esp=12345678"},
		{"return 4", here + "12345678,ABCD0043", "back=500 cs=3B ss=43 esp=12345678"},
		{"return 4", "in=2 iopl=3 " + here + "7777,43", "back=500 cs=3B ss=43 esp=7777"},
		{"return 4", noData + "stack=9000:500,19,@,7777,21", "back=500 cs=19 ss=21 esp=7777"},
		{"return 4", noData + "stack=9000:500,49,@,7777,21", "back=500 cs=49 ss=21 esp=7777"},
		{"return 4", here + "7777,AB", "back=500 cs=3B ss=AB esp=7777"},
		{"return 4", here + "7777,0", "#GP(0)"},
		{"return 4", here + "7777,3", "#GP(0)"},
		{"return 4", here + "7777,FFFF0003 words=800:FFFF,CFF200", "#GP(0)"},
		{"return 4", here + "7777,47", "#GP(44)"},
		{"return 4", here + "7777,C3", "#GP(C0)"},
		{"return 4", here + "7777,43 gdt.limit=47", "back=500 cs=3B ss=43 esp=7777"},
		{"return 4", here + "7777,43 gdt.limit=46", "#GP(40)"},
		{"return 4", here + "7777,42", "#GP(40)"},
		{"return 4", here + "7777,40", "#GP(40)"},
		{"return 4", here + "7777,33", "#GP(30)"},
		{"return 4", here + "7777,10", "#GP(10)"},
		{"return 4", here + "7777,3B", "#GP(38)"},
		{"return 4", here + "7777,8B", "#GP(88)"},
		{"return 4", here + "7777,43 words=840:FFFF,CFF000", "#GP(40)"},
		{"return 4", here + "7777,43 words=840:FFFF,CFE200", "#GP(40)"},
		{"return 4", here + "7777,43 words=840:FFFF,CF7000", "#GP(40)"},
		{"return 4", here + "7777,B3", "#SS(B0)"},
		{"return 4", here + "7777,B2", "#GP(B0)"},
		{"return 4", here + "7777,43 ss.limit=9013", "back=500 cs=3B ss=43 esp=7777"},
		{"return 4", here + "7777,43 ss.limit=9012", "#SS(0)"},
		{"return 4", here + "7777,43 ss.limit=900F", "#SS(0)"},
		{"return 4", here + "7777,43 ss.limit=900E", "#SS(0)"},
		{"return 4", here + "7777,0 ss.limit=9012", "#SS(0)"},

		{"return 2", noData + "halves=9000:500,3B,@,7777,43", "back=500 cs=3B ss=43 esp=7777"},
		{"return 2", noData + "halves=9000:500,3B,@,7777,43 ss.limit=9009", "back=500 cs=3B ss=43 esp=7777"},
		{"return 2", noData + "halves=9000:500,3B,@,7777,43 ss.limit=9008", "#SS(0)"},
		{"return 2", noData + "halves=9000:500,3B,@,7777,43 ss.limit=9006", "#SS(0)"},
		{"return 2", noData + "halves=9000:500,3B,@,7777,43 esp=FEDC9000 ss.base=01240000", "back=500 cs=3B ss=43 esp=FEDC7777"},
		{"return 2", noData + "halves=9000:500,3B,@,7777,43 esp=FEDD9000 ss.base=01230000", "back=500 cs=3B ss=43 esp=FEDD7777"},
		{"return 2", noData + "halves=9000:500,3B,@,0,43 esp=FEDC9000 ss.base=01240000", "back=500 cs=3B ss=43 esp=FEDC0000"},
		{"return 2", noData + "halves=9000:500,8,@ esp=FEDC9000 ss.base=01240000", "back=500 cs=8 esp=FEDC9006"},
		{"return 2", noData + "halves=9000:500,3B,@,7777,3", "#GP(0)"},
		{"return 2", noData + "halves=9000:500,3B,@,7777,42", "#GP(40)"},
		{"return 2", noData + "halves=9000:500,3B,@,7777,B3", "#SS(B0)"},
	})
}

// P18.3: each flag by the ring that was and IOPL that was, of both sizes, to the same ring and to the outermost one.
func TestFlagsOfReturns(t *testing.T) {
	const always = 0x4DD5 // CF PF AF ZF SF TF DF OF NT
	for ring := range 4 {
		for iopl := range uint32(4) {
			may := uint32(always)
			if ring <= int(iopl) {
				may += 0x200
			}
			if ring == 0 {
				may += 0x3000
			}
			for _, was := range []uint32{0, 0xFFFF8FFF &^ nt, 0x5555AAAA &^ nt, 0xAAAA5555 &^ nt, 0x200, 2} {
				was = was&^0x3000 + iopl*0x1000
				for _, word := range []uint32{0, 0xFFFFFFFF, 0x55555555, 0xAAAAAAAA, 0x3000, 0x200, 0x4DD5, 2} {
					then := was - was&may + word&may
					then |= 2
					checkFlags(t, ring, was, word, then)
				}
			}
		}
	}
}

func checkFlags(t *testing.T, ring int, was, word, then uint32) {
	t.Helper()
	for _, outer := range []int{ring, 3} {
		cs, ss := 0x10*outer+8+outer, 0x10*outer+0x10+outer
		before := fmt.Sprintf("in=%x es=0 ds=0 fs=0 gs=0 flags=%x ", ring, was)
		for size, laid := range map[int]string{2: "halves", 4: "stack"} {
			after := fmt.Sprintf("back=500 flags=%x cs=%x esp=%x", then, cs, 0x9000+3*size)
			if outer > ring {
				after = fmt.Sprintf("back=500 flags=%x cs=%x ss=%x esp=7777", then, cs, ss)
			}
			runOnceOf(t, row{fmt.Sprintf("return %d", size), before + fmt.Sprintf("%s=9000:500,%x,%x,7777,%x", laid, cs, word, ss), after})
		}
	}
}

// runOnceOf does a row that says what Flags are.
func runOnceOf(t *testing.T, x row) {
	t.Helper()
	before := fresh()
	before.apply(x.before, 0)
	x.runFrom(t, before)
}

// P18.3: what the outer ring may not keep, of each segment register: each kind of descriptor, at each Dpl.
func TestDataOfReturns(t *testing.T) {
	for ring := range 3 {
		for outer := ring; outer < 4; outer++ {
			cs, ss := 0x10*outer+8+outer, 0x10*outer+0x10+outer
			back := fmt.Sprintf("back=500 cs=%x ss=%x esp=7777", cs, ss)
			if outer == ring {
				back = fmt.Sprintf("back=500 cs=%x esp=900C", cs)
			}
			begin := fresh()
			begin.apply(fmt.Sprintf("in=%x es=0 ds=0 fs=0 gs=0 stack=9000:500,%x,2,7777,%x", ring, cs, ss), 0)
			e := begin.env(t)
			for dpl := -1; dpl < 5; dpl++ {
				for kind := -1; kind < 18; kind++ {
					checkData(t, e, begin.cpu, outer, dpl, kind, back)
				}
			}
		}
	}
}

func checkData(t *testing.T, e *exec.Env, begin api.Cpu, outer, dpl, kind int, back string) {
	t.Helper()
	data := kind >= 0 && kind < 8
	code := kind >= 8 && kind < 12 // that is not conforming
	ring := int(begin.Seg[api.Cs].Sel & 3)
	for n, name := range []string{"es", "ds", "fs", "gs"} {
		for _, how := range []string{"", "null", "absent", "system"} {
			before := state{cpu: begin}
			before.cpu.Seg[[]int{0, 3, 4, 5}[n]] = api.SegReg{Sel: 0x1234, D: api.Desc{Base: 5, Limit: 6, Type: kind, Dpl: dpl, Present: true}}
			if how != "" {
				before.apply(name+"."+how, 0)
			}
			want := before
			want.apply(back, 0)
			if ring < outer && dpl < outer && (data || code) && how != "null" && how != "system" {
				want.apply(name+"=0", 0)
			}
			e.Cpu = before.cpu
			if f := except.Return(e, 4); f != api.None() || e.Cpu != want.cpu {
				t.Errorf("from ring %d to %d, %s (%s) of Type %d, Dpl %d: %+v, %s", ring, outer, name, how, kind, dpl, f, unlike(e.Cpu, want.cpu))
			}
		}
	}
}

// P18.3: what is made null, by rows; null registers keep their selectors, CS and SS are what was popped.
func TestDataByHand(t *testing.T) {
	const stack = "stack=9000:500,3B,@,7777,43"
	const back = "back=500 cs=3B ss=43 esp=7777"
	runAll(t, []row{
		{"return 4", stack, back + " es=0 ds=0 fs=0 gs=0"},
		{"return 4", stack + " es=3 ds=2 fs=1 gs=0", back},
		{"return 4", stack + " es=43 ds=3B fs=48 gs=58", back},
		{"return 4", stack + " es=50 ds=60 fs=98 gs=40", back},
		{"return 4", stack + " es=8 ds=28 fs=30 gs=B8", back + " es=0 ds=0 fs=0 gs=0"},
		{"return 4", stack + " es=88 ds=10 fs=40 gs=18", back + " ds=0 gs=0"},
		{"return 4", stack + " es=A8 ds=70 fs=B0 gs=78", back + " ds=0 gs=0"},
		{"return 4", "stack=9000:500,19,@,7777,21 es=10 ds=20 fs=40 gs=8", "back=500 cs=19 ss=21 esp=7777 es=0 gs=0"},
		{"return 4", "stack=9000:500,59,@,7777,21", "#GP(58)"},
		{"return 4", "stack=9000:500,8,@", "back=500 cs=8 esp=900C"},
		{"return 4", "stack=9000:500,3B,@,7777,42", "#GP(40)"},
	})
}

// P18.3: the stack is read by the ring that was, tables by the processor itself; what was read is marked, nothing else is written.
func TestReturnWithPages(t *testing.T) {
	runPaged(t, []row{
		{"return 4", "stack=9000:500,8,@ B024:07900000 B000:07000000", "back=500 cs=8 esp=900C B024:27900000 B000:27000000"},
		{"return 4", "stack=9000:500,8,@ B024:63900000 B000:63000000", "back=500 cs=8 esp=900C"},
		{"return 4", "in=3 stack=9000:500,3B,@ B000:63000000 iopl=3", "back=500 cs=3B esp=900C"},
		{"return 4", "in=3 stack=9000:500,3B,@ B024:63900000", "#PF(5,9000)"},
		{"return 4", "in=3 stack=9000:500,3B,@ B024:65900000 iopl=3", "back=500 cs=3B esp=900C"},
		{"return 4", "in=3 stack=9000:500,3B,@ B024:00000000", "#PF(4,9000)"},
		{"return 4", "stack=8FFC:500,8,@ B024:00000000 B020:07800000", "#PF(0,9000) B020:27800000"},
		{"return 4", "stack=8FFA:500,8,@ B024:00000000 B020:07800000", "#PF(0,9000) B020:27800000"},
		{"return 4", "stack=8FF8:500,0,@ B024:00000000 B020:07800000", "#PF(0,9000) B020:27800000"},
		{"return 4", "stack=8FF4:500,0,@ B024:00000000 B020:07800000", "#GP(0) B020:27800000"},
		{"return 4", "stack=8FF4:500,8,@ B024:00000000 B020:07800000", "back=500 cs=8 esp=9000 B020:27800000"},
		{"return 4", "stack=8FF4:500,3B,@,7777,43 B024:00000000 B020:07800000", "#PF(0,9000) B020:27800000"},
		{"return 4", "stack=8FF0:500,3B,@,7777,43 B024:00000000 B020:07800000", "#PF(0,9000) B020:27800000"},
		{"return 4", "stack=8FEC:500,3B,@,7777,3 B024:00000000 B020:07800000", "#GP(0) B020:27800000"},
		{"return 2", "halves=8FFA:500,8,@ B024:00000000 B020:07800000", "back=500 cs=8 esp=9000 B020:27800000"},
		{"return 2", "halves=8FFB:500,8,@ B024:00000000 B020:07800000", "#PF(0,9000) B020:27800000"},
		{"return 2", "halves=8FF6:500,3B,@,7777,3 B024:00000000 B020:07800000", "#GP(0) B020:27800000"},
		{"return 2", "halves=8FF7:500,3B,@,7777,3 B024:00000000 B020:07800000", "#PF(0,9000) B020:27800000"},
		{"return 4", "stack=9000:500,8,@ B000:00000000", "#PF(0,808)"},
		{"return 4", "stack=9000:500,C0,@ B000:00000000", "#GP(C0)"},
		{"return 4", "in=3 stack=9000:500,8,@ B000:00000000", "#GP(8)"},
		{"return 4", "stack=9000:500,8,@ B000:07000000 words=808:FFFF,CF1A00", "#NP(8) B000:27000000"},
	})
}
