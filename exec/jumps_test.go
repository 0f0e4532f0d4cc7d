package exec_test

import (
	"fmt"
	"testing"

	"drawloom/api"
	"drawloom/bitop"
)

// P17.3, IJmp: by a displacement, by a register, by memory; to the Limit, not above it; of size 2 cut first.
func TestJumps(t *testing.T) {
	runAll(t, []row{
		{"EB 10", "", "eip=112"},
		{"EB FE", "", "eip=100"},
		{"EB 80", "", "eip=82"},
		{"EB 20", "eip=FFFFFFF0", "eip=12"},
		{"EB F0", "eip=0", "eip=FFFFFFF2"},
		{"EB FE", "eip=FFFFFFFF", "eip=FFFFFFFF"},
		{"E9 78563412", "", "eip=1234577D"},
		{"E9 00FFFFFF", "", "eip=5"},
		{"66 E9 0010", "", "eip=1104"},
		{"66 E9 00FF", "", "eip=4"},
		{"66 E9 FCFE", "", "eip=0"},
		{"66 E9 F0FE", "", "eip=FFF4"},
		{"66 EB 10", "eip=12340100", "eip=113"},
		{"66 EB 10", "eip=1234FFFF", "eip=12"},
		{"FF E3", "ebx=12345678", "eip=12345678"},
		{"66 FF E3", "ebx=12345678", "eip=5678"},
		{"FF 26", "2000:78563412", "eip=12345678"},
		{"66 FF 26", "2000:7856", "eip=5678"},
		{"EB 10", "cs.limit=112", "eip=112"},
		{"EB 10", "cs.limit=111", "#GP(0)"},
		{"EB 10", "cs.limit=0", "#GP(0)"},
		{"EB F0", "eip=0 cs.limit=FFFFFFF1", "#GP(0)"},
		{"E9 00100000", "cs.limit=1105", "eip=1105"},
		{"E9 00100000", "cs.limit=1104", "#GP(0)"},
		{"66 EB 10", "eip=12340100 cs.limit=113", "eip=113"},
		{"66 EB 10", "eip=12340100 cs.limit=112", "#GP(0)"},
		{"FF E3", "ebx=12345678 cs.limit=12345678", "eip=12345678"},
		{"FF E3", "ebx=12345678 cs.limit=12345677", "#GP(0)"},
		{"66 FF E3", "ebx=12345678 cs.limit=5678", "eip=5678"},
		{"66 FF E3", "ebx=12345678 cs.limit=5677", "#GP(0)"},
		{"FF 26", "ds.limit=2002", "#GP(0)"},
		{"FF 26", "ds=28 2000:78563412", "eip=12345678"},
		{"EB 10", "cs.base=5000", "eip=112"},
		{"EB 10", "cs.null cs.type=0", "eip=112"},
	})
}

// P17.1: behind an instruction is not held against the Limit, and goes round.
func TestBehind(t *testing.T) {
	runAll(t, []row{
		{"90", "cs.limit=0", "eip=101"},
		{"90", "eip=FFFFFFFF", "eip=0"},
		{"66 90", "eip=FFFFFFFF", "eip=1"},
		{"B8 78563412", "eip=FFFFFFFE", "eax=12345678 eip=3"},
		{"66 40", "eip=1234FFFF f=- eax=0", "ax=1 f=- eip=12350001"},
		{"90", "halted", "halted"},
	})
}

// P17.3, IJcc: each condition by all flags, near and far; what is not jumped to may lie anywhere.
func TestConditionalJumps(t *testing.T) {
	for cc := range 16 {
		for _, flags := range conditionFlags() {
			holds, err := bitop.Cond(cc, flags)
			if err != api.OK {
				t.Fatal(err)
			}
			near, far := "", ""
			if holds {
				near, far = "eip=112", "eip=12345779"
			}
			row{fmt.Sprintf("%02X10", 0x70+cc), names(flags), near}.run(t)
			row{fmt.Sprintf("0F%02X73563412", 0x80+cc), names(flags), far}.run(t)
		}
	}
	runAll(t, []row{
		{"74 10", "f=ZF", "eip=112"},
		{"75 10", "f=ZF", ""},
		{"74 80", "f=ZF", "eip=82"},
		{"72 FE", "f=CF", "eip=100"},
		{"66 74 10", "f=ZF eip=12340100", "eip=113"},
		{"66 74 10", "f=- eip=12340100", "eip=12340103"},
		{"66 0F 84 0010", "f=ZF eip=12340100", "eip=1105"},
		{"66 0F 84 00FF", "f=ZF", "eip=5"},
		{"66 0F 84 0010", "f=- eip=12340100", "eip=12340105"},
		{"74 10", "f=ZF cs.limit=112", "eip=112"},
		{"74 10", "f=ZF cs.limit=111", "#GP(0)"},
		{"74 10", "f=- cs.limit=0", ""},
		{"0F 84 00100000", "f=ZF cs.limit=1105", "#GP(0)"},
		{"0F 84 00100000", "f=ZF cs.limit=1106", "eip=1106"},
	})
}

// P17.3, ILoop: ECX, all of it, whatever the size; to the Limit.
func TestLoops(t *testing.T) {
	runAll(t, []row{
		{"E2 FE", "ecx=5", "ecx=4 eip=100"},
		{"E2 10", "ecx=2", "ecx=1 eip=112"},
		{"E2 10", "ecx=1", "ecx=0"},
		{"E2 10", "ecx=0", "ecx=FFFFFFFF eip=112"},
		{"E0 10", "ecx=2 f=-", "ecx=1 eip=112"},
		{"E0 10", "ecx=2 f=ZF", "ecx=1"},
		{"E0 10", "ecx=1 f=-", "ecx=0"},
		{"E0 10", "ecx=1 f=ZF", "ecx=0"},
		{"E0 10", "ecx=0 f=CF+PF+AF+SF+OF", "ecx=FFFFFFFF eip=112"},
		{"E1 10", "ecx=2 f=ZF", "ecx=1 eip=112"},
		{"E1 10", "ecx=2 f=CF+PF+AF+SF+OF", "ecx=1"},
		{"E1 10", "ecx=1 f=ZF", "ecx=0"},
		{"E1 10", "ecx=0 f=ZF", "ecx=FFFFFFFF eip=112"},
		{"E3 10", "ecx=0", "eip=112"},
		{"E3 10", "ecx=1", ""},
		{"E3 10", "ecx=FFFFFFFF", ""},
		{"E3 10", "ecx=10000", ""},
		{"66 E2 10", "ecx=10000 eip=12340100", "ecx=FFFF eip=113"},
		{"66 E2 10", "ecx=1 eip=12340100", "ecx=0 eip=12340103"},
		{"66 E3 10", "ecx=10000", ""},
		{"66 E3 10", "ecx=0 eip=12340100", "eip=113"},
		{"E2 10", "ecx=2 cs.limit=112", "ecx=1 eip=112"},
		{"E2 10", "ecx=2 cs.limit=111", "#GP(0)"},
		{"E0 10", "ecx=2 f=- cs.limit=111", "#GP(0)"},
		{"E1 10", "ecx=2 f=ZF cs.limit=111", "#GP(0)"},
		{"E2 10", "ecx=1 cs.limit=0", "ecx=0"},
		{"E3 10", "ecx=0 cs.limit=111", "#GP(0)"},
		{"E3 10", "ecx=0 cs.limit=112", "eip=112"},
		{"66 E2 10", "ecx=2 eip=12340100 cs.limit=113", "ecx=1 eip=113"},
		{"66 E2 10", "ecx=2 eip=12340100 cs.limit=112", "#GP(0)"},
	})
}

// P17.3, ICall: the place is asked ahead of the stack, and what is behind is pushed.
func TestCalls(t *testing.T) {
	runAll(t, []row{
		{"E8 10000000", "", "8FFC:05010000 esp=8FFC eip=115"},
		{"E8 FBFFFFFF", "", "8FFC:05010000 esp=8FFC eip=100"},
		{"E8 00000000", "eip=12345678", "8FFC:7D563412 esp=8FFC eip=1234567D"},
		{"66 E8 1000", "", "8FFE:0401 esp=8FFE eip=114"},
		{"66 E8 1000", "eip=12340100", "8FFE:0401 esp=8FFE eip=114"},
		{"66 E8 FCFE", "", "8FFE:0401 esp=8FFE eip=0"},
		{"FF D3", "ebx=12345678", "8FFC:02010000 esp=8FFC eip=12345678"},
		{"66 FF D3", "ebx=12345678", "8FFE:0301 esp=8FFE eip=5678"},
		{"FF 16", "2000:78563412", "8FFC:02010000 esp=8FFC eip=12345678"},
		{"66 FF 16", "2000:7856", "8FFE:0301 esp=8FFE eip=5678"},
		{"FF 14 24", "9000:78563412", "8FFC:03010000 esp=8FFC eip=12345678"},
		{"FF D4", "", "8FFC:02010000 esp=8FFC eip=9000"},
		{"E8 10000000", "cs.limit=115", "8FFC:05010000 esp=8FFC eip=115"},
		{"E8 10000000", "cs.limit=114", "#GP(0)"},
		{"E8 10000000", "cs.limit=114 ss.null", "#GP(0)"},
		{"E8 10000000", "ss.null", "#SS(0)"},
		{"E8 10000000", "ss.limit=8FFE", "#SS(0)"},
		{"66 E8 1000", "eip=12340100 cs.limit=114", "8FFE:0401 esp=8FFE eip=114"},
		{"66 E8 1000", "eip=12340100 cs.limit=113", "#GP(0)"},
		{"66 FF D3", "ebx=12345678 cs.limit=5678", "8FFE:0301 esp=8FFE eip=5678"},
		{"66 FF D3", "ebx=12345678 cs.limit=5677", "#GP(0)"},
		{"FF 16", "ds.limit=2002", "#GP(0)"},
		{"FF D3", "ebx=12345678 esp=0 ss.base=5000", "4FFC:02010000 esp=FFFFFFFC eip=12345678"},
		{"FF D3", "ebx=12345678 esp=2 ss.base=5000", "#SS(0)"},
	})
}

// P17.3, IRet: with a number and without.
func TestReturns(t *testing.T) {
	runAll(t, []row{
		{"C3", "9000:78563412", "eip=12345678 esp=9004"},
		{"66 C3", "9000:7856", "eip=5678 esp=9002"},
		{"C2 0800", "9000:78563412", "eip=12345678 esp=900C"},
		{"C2 FFFF", "9000:78563412", "eip=12345678 esp=19003"},
		{"66 C2 0100", "9000:7856", "eip=5678 esp=9003"},
		{"C2 0800", "esp=FFFFFFFC ss.base=5000 4FFC:78563412", "eip=12345678 esp=8"},
		{"C3", "9000:78563412 cs.limit=12345678", "eip=12345678 esp=9004"},
		{"C3", "9000:78563412 cs.limit=12345677", "#GP(0)"},
		{"C2 0800", "9000:78563412 cs.limit=12345677", "#GP(0)"},
		{"66 C3", "9000:7856 cs.limit=5678", "eip=5678 esp=9002"},
		{"66 C3", "9000:7856 cs.limit=5677", "#GP(0)"},
		{"C3", "ss.limit=9002", "#SS(0)"},
		{"C3", "ss.null cs.limit=0", "#SS(0)"},
	})
}

// P17.3, IInt and IIret: they are asked for, and Eip is behind.
func TestInterrupts(t *testing.T) {
	runAll(t, []row{
		{"CC", "", "soft=3"},
		{"CD 80", "", "soft=80"},
		{"CD 00", "", "soft=0"},
		{"CD FF", "ring=3 iopl=0", "soft=FF"},
		{"66 CD 80", "", "soft=80"},
		{"CE", "f=OF", "soft=4"},
		{"CE", "f=CF+PF+AF+ZF+SF", ""},
		{"CD 04", "f=-", "soft=4"},
		{"CC", "f=-", "soft=3"},
		{"CF", "", "iret"},
		{"66 CF", "ring=3", "iret"},
	})
}

// P17.3, IFar: each kind of descriptor, each way a selector may be, and the Limit.
func TestFarJumps(t *testing.T) {
	runAll(t, []row{
		{"EA 78563412 0800", "", "eip=12345678 cs=8"},
		{"66 EA 7856 0800", "eip=12340100", "eip=5678 cs=8"},
		{"EA 78563412 4000", "", "eip=12345678 cs=40"},
		{"EA 78563412 3800", "", "eip=12345678 cs=38"},
		{"EA 78563412 3B00", "", "eip=12345678 cs=38"},
		{"EA 78563412 0800", "cs.null", "eip=12345678 cs=8"},
		{"EA FF2F0000 5000", "", "eip=2FFF cs=50"},
		{"EA 00300000 5000", "", "#GP(0)"},
		{"66 EA FF2F 5000", "", "eip=2FFF cs=50"},
		{"66 EA 0030 5000", "", "#GP(0)"},
		{"EA FFFFFFFF 0800", "cs.limit=0", "eip=FFFFFFFF cs=8"},

		{"EA 00000000 0000", "", "#GP(0)"},
		{"EA 00000000 0100", "", "#GP(0)"},
		{"EA 00000000 0300", "", "#GP(0)"},
		{"EA 00000000 0000", "800:FFFF0000009ACF00", "#GP(0)"},
		{"EA 00000000 0300", "800:FFFF0000009ECF00", "#GP(0)"},
		{"EA 00000000 0000", "gdt.limit=0", "#GP(0)"},
		{"EA 00000000 C800", "", "#GP(C8)"},
		{"EA 00000000 CB00", "", "#GP(C8)"},
		{"EA 00000000 0800", "gdt.limit=E", "#GP(8)"},
		{"EA 78563412 0800", "gdt.limit=F", "eip=12345678 cs=8"},
		{"EA 00000000 0C00", "", "#GP(C)"},
		{"EA 00000000 0F00", "", "#GP(C)"},
		{"EA 00000000 0400", "", "#GP(4)"},
		{"EA 00000000 FFFF", "", "#GP(FFFC)"},

		{"EA 00000000 1000", "", "#GP(10)"},
		{"EA 00000000 2800", "", "#GP(28)"},
		{"EA 00000000 1800", "", "#GP(18)"},
		{"EA 00000000 1B00", "", "#GP(18)"},
		{"EA 00000000 0B00", "", "#GP(8)"},
		{"EA 00000000 4800", "", "#NP(48)"},
		{"EA 00000000 4B00", "", "#GP(48)"},
		{"EA 00000000 5800", "", "#GP(58)"},
		{"EA 00000000 6000", "", "#GP(60)"},
		{"EA 00000000 7800", "", "#GP(78)"},
		{"EA 00000000 8000", "", "#GP(80)"},
		{"EA 00000000 9800", "", "eip=0 cs=98"},
		{"EA 00000000 A000", "", "#GP(A0)"},
		{"EA 00000000 B000", "", "#NP(B0)"},
		{"EA 00000000 B300", "ring=3", "#NP(B0)"},

		{"EA 78563412 1800", "cs=1B", "eip=12345678 cs=1B"},
		{"EA 78563412 1A00", "cs=1B", "eip=12345678 cs=1B"},
		{"EA 78563412 1B00", "cs=1B", "eip=12345678 cs=1B"},
		{"EA 78563412 3800", "cs=1B", "eip=12345678 cs=3B"},
		{"EA 78563412 8000", "cs=1B", "eip=12345678 cs=83"},
		{"EA 78563412 0800", "cs=1B", "#GP(8)"},
		{"EA 78563412 0B00", "cs=1B", "#GP(8)"},
		{"EA 78563412 3800", "ring=1", "eip=12345678 cs=39"},
	})
}
