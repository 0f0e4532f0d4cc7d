package step_test

import (
	"testing"

	"drawloom/api"
	"drawloom/exec"
	"drawloom/step"
)

// P19.2: instructions that end plainly.
func TestPlain(t *testing.T) {
	runBoth(t, []row{
		{"100:90", "inst", "by=101"},
		{"100:B844332211", "inst", "by=105 eax=11223344"},
		{"100:66B83412", "inst", "by=104 eax=A0A11234"},
		{"100:40 flags=2 eax=0", "inst", "by=101 eax=1"},
		{"100:40 flags=3 eax=FFFFFFFF", "inst", "by=101 eax=0 set=ZF+PF+AF"},
		{"100:EBFE", "inst", "by=100"},
		{"100:E9FB0F0000", "inst", "by=1100"},
		{"100:E8FB0F0000", "inst", "by=1100 esp=8FFC words=8FFC:105"},
		{"100:C3 words=9000:1234", "inst", "by=1234 esp=9004"},
		{"100:50", "inst", "by=101 esp=8FFC words=8FFC:A0A1A2A3"},
		{"100:9C", "inst", "by=101 esp=8FFC words=8FFC:@"},
		{"100:A300300000", "inst", "by=105 words=3000:A0A1A2A3"},
		{"100:F3AA ecx=3 clr=DF", "inst", "noshadow ecx=2 edi=3001 3000:A3"},
		{"100:F3AA ecx=1 clr=DF", "inst", "by=102 ecx=0 edi=3001 3000:A3"},
		{"100:F3AA ecx=0", "inst", "by=102"},
		{"100:E421", "inst", "by=102 eax=A0A1A2EF"},
		{"100:E621 eax=FF asks clr=IF", "inst", "by=102 quiet"},
		{"100:E620 eax=20 served", "inst", "by=102 quiet"},
		{"100:CE clr=OF", "inst", "by=101"},
		{"100:F4 clr=IF", "inst", "by=101 halted"},
		{"100:F4 set=IF", "inst", "by=101 halted"},
		{"100:FA set=IF", "inst", "by=101 clr=IF"},
		{"100:FB set=IF", "inst", "by=101"},
		{"100:FB clr=IF", "inst", "eip=101 set=IF shadow"},
		{"100:8ED0 eax=10", "inst", "eip=102 ss=10 shadow"},
		{"100:17 words=9000:10", "inst", "eip=101 ss=10 esp=9004 shadow"},
		{"100:8ED8 eax=10", "inst", "by=102 ds=10"},
		{"100:1F words=9000:10", "inst", "by=101 ds=10 esp=9004"},
		{"100:0F20C0 cr0=1", "inst", "by=103 eax=1"},
		{"100:0F22D0 eax=1234", "inst", "by=103 cr2=1234"},
		{"100:90 in=3", "inst", "by=101"},
	})
	runSteps(t, []row{{"2100:90 cs.base=2000 100:F4", "inst", "by=101"}, {"2FFF:B844332211 eip=FFF cs.base=2000", "inst", "by=1004 eax=11223344"}})
}

// P19.2: each fault of an instruction: what is pushed is the place of the instruction, and the flags that were.
func TestFaultsOfInstructions(t *testing.T) {
	runBoth(t, []row{
		{"100:F7F3 ebx=0", "fault", "#DE"},
		{"100:F7F1 ecx=1 edx=1", "fault", "#DE"},
		{"100:D400", "fault", "#DE"},
		{"100:A1FC0F0000 ds.limit=FFE", "fault", "#GP(0)"},
		{"100:A1FC0F0000 ds=0", "fault", "#GP(0)"},
		{"100:8B442404 ss.limit=9006", "fault", "#SS(0)"},
		{"100:8ED8 eax=28", "fault", "#NP(28)"},
		{"100:8ED0 eax=28", "fault", "#SS(28)"},
		{"100:8ED0 eax=0", "fault", "#GP(0)"},
		{"100:8ED8 eax=3C", "fault", "#GP(3C)"},
		{"100:EA001000000000", "fault", "#GP(0)"},
		{"100:E9FB0F0000 cs.limit=FFF", "fault", "#GP(0)"},
		{"100:A100500000 cr0=80000001 words=B014:0", "fault", "#PF(0,5000)"},
		{"100:A300500000 cr0=80000001 words=B014:0", "fault", "#PF(2,5000)"},
		{"100:A3FE4F0000 cr0=80000001 words=B014:0", "fault", "#PF(2,5000)"},
		{"100:A100500000 cr0=80000001 words=B014:0 in=3", "fault", "#PF(4,5000)"},
		{"100:A300500000 cr0=80000001 words=B014:5065 in=3", "fault", "#PF(7,5000)"},
		{"100:A100500000 cr0=80000001 words=B014:5063 in=3", "fault", "#PF(5,5000)"},
		{"100:F4 in=3", "fault", "#GP(0)"},
		{"100:FA in=3 flags=2", "fault", "#GP(0)"},
		{"100:E421 in=3 flags=2", "fault", "#GP(0)"},
		{"100:F3A4 ecx=5 ds=0", "fault", "#GP(0)"},
		{"100:F7F3 ebx=0 in=3", "fault", "#DE"},
		{"100:F7F3 ebx=0 asks clr=IF", "fault", "#DE"},
		{"100:F7F3 ebx=0 shadow", "fault", "#DE"},
		// What was stored ahead of the fault stays.
		{"100:60 in=3 esp=8010 cr0=80000001 words=B01C:0", "fault", "words=8000:B0B1B2B3,D0D1D2D3,C0C1C2C3,A0A1A2A3 #PF(6,7FFC)"},
	})
}

// P19.2: a fault whose delivery ends with another one: joined, or the processor is dead, and as it was ahead of the instruction.
func TestFaultsOfDelivery(t *testing.T) {
	runBoth(t, []row{
		{"100:F7F3 ebx=0 gate=0:8:6030:0E00", "fault", "#DF(0)"},
		{"100:F7F3 ebx=0 gate=0:8:6030:0E00 gate=8:8:6030:0E00", "fault", "dying"},
		{"100:F7F3 ebx=0 idt.limit=0", "fault", "dying"},
		{"100:A100500000 cr0=80000001 words=B014:0 idt.limit=77", "fault", "#PF(0,5000)"},
		{"100:A100500000 cr0=80000001 words=B014:0 idt.limit=76", "fault", "cr2=5000 #DF(0)"},
		{"100:A100500000 cr0=80000001 words=B014:0 idt.limit=0", "fault", "cr2=5000 dying"},
		{"100:CD80 idt.limit=0", "fault", "dying"},
		{"100:CF set=NT idt.limit=0", "fault", "dying"},
		{"100:CD80 gate=80:8:6030:0E00 gate=B:8:6030:0E00", "fault", "#DF(0)"},
		{"100:CD80 ss.limit=8FFE", "fault", "dying"},
		{"100:CD80 esp=8004 cr0=80000001 words=B01C:0", "fault", "words=8000:@ cr2=7FFC dying"},
	})
}

// P19.2: an interrupt that an instruction asks for: what is pushed is the place behind it.
func TestSoft(t *testing.T) {
	runBoth(t, []row{
		{"100:CD80", "inst", "soft=80:102"},
		{"100:CD00", "inst", "soft=0:102"},
		{"100:CDFF", "inst", "soft=FF:102"},
		{"100:CD0D", "inst", "soft=D:102"}, // no code
		{"100:CD08", "inst", "soft=8:102"},
		{"100:66CD80", "inst", "soft=80:103"},
		{"100:CC", "inst", "soft=3:101"},
		{"100:CD03", "inst", "soft=3:102"},
		{"100:CE set=OF", "inst", "soft=4:101"},
		{"100:CD80 gate=80:8:6030:EE00 in=3", "inst", "soft=80:102 eip=6030"},
		{"100:CC gate=3:8:6030:EE00 in=3", "inst", "soft=3:101 eip=6030"},
		{"100:CE gate=4:8:6030:EE00 in=3 set=OF", "inst", "soft=4:101 eip=6030"},
		{"100:CE in=3 clr=OF", "inst", "by=101"},
		{"100:CD80 gate=80:8:6030:8F00 flags=202", "inst", "soft=80:102 eip=6030 flags=202"},
	})
}

// P19.2: such an interrupt that can't be delivered: the place is that of the instruction, the code tells that it was asked for.
func TestSoftWithFault(t *testing.T) {
	runBoth(t, []row{
		{"100:CD80 idt.limit=406", "fault", "#GP(402)"},
		{"100:CD80 idt.limit=407", "inst", "soft=80:102"},
		{"100:CD80 gate=80:8:6030:0E00", "fault", "#NP(402)"},
		{"100:CD80 gate=80:8:6030:8500", "fault", "#GP(402)"},
		{"100:CD80 gate=80:0:6030:8E00", "fault", "#GP(0)"},
		{"100:CD80 gate=80:10:6030:8E00", "fault", "#GP(10)"},
		{"100:CD80 gate=80:38:6030:8E00", "fault", "#GP(38)"},
		{"100:CC gate=3:8:6030:0E00", "fault", "#NP(1A)"},
		{"100:CE set=OF gate=4:8:6030:0E00", "fault", "#NP(22)"},
		{"100:CD80 in=3", "fault", "#GP(402)"},
		{"100:CC in=3", "fault", "#GP(1A)"},
		{"100:CE in=3 set=OF", "fault", "#GP(22)"},
		{"100:CD0E gate=E:8:6030:0E00", "fault", "#NP(72)"},
		{"100:CD08 gate=8:8:6030:0E00", "fault", "#NP(42)"},
		{"100:CD80 shadow gate=80:8:6030:0E00", "fault", "#NP(402)"},
		{"100:CD80 in=3 gate=80:8:6030:EE00 gate=A:18:5000:8E00 words=1404:7000,18", "fault", "words=8FF0:18,100,1B,@ esp=8FF0 eip=5000 clr=TF+IF noshadow"},
	})
}

// P19.2: an interrupt is ended.
func TestIret(t *testing.T) {
	runBoth(t, []row{
		{"100:CF flags=2 words=9000:200,8,202", "inst", "by=200 esp=900C flags=202"},
		{"100:CF flags=602 words=9000:200,8,2", "inst", "by=200 esp=900C flags=2"},
		{"100:66CF flags=2 9000:000208000202", "inst", "by=200 esp=9006 flags=202"},
		{"100:CF flags=2 words=9000:200,1B,202,9500,23", "inst", "by=200 flags=202 cs=1B ss=23 es=0 ds=0 fs=0 gs=0 esp=9500"},
		{"100:CF clr=NT words=9000:200,8,4002 flags=2", "inst", "by=200 esp=900C flags=4002"},
		{"100:CF set=NT words=9000:200,8,2", "fault", "#GP(0)"},
		{"100:66CF set=NT 9000:000208000202", "fault", "#GP(0)"},
		{"100:CF words=9000:200,0,2", "fault", "#GP(0)"},
		{"100:CF words=9000:200,10,2", "fault", "#GP(10)"},
		{"100:CF words=9000:200,38,2", "fault", "#GP(38)"},
		{"100:CF in=3 words=9000:200,8,2", "fault", "#GP(8)"},
		{"100:CF ss.limit=9006", "fault", "#SS(0)"},
		{"100:CF shadow ss.limit=9006", "fault", "#SS(0)"},
		{"100:CF words=9000:200,1B,202,9500,28", "fault", "#GP(28)"},
		{"100:CF esp=8FFC cr0=80000001 words=8FFC:200 words=B024:0", "fault", "#PF(0,9000)"},
	})
}

// P19.2: Finish does not ask whether the processor waits, is dead, or is to be interrupted.
func TestFinishAsksNothing(t *testing.T) {
	for _, b := range someBegun() {
		for _, x := range []row{
			{"100:90 halted", "inst", "by=101"},
			{"100:90 dying", "inst", "by=101"},
			{"100:90 asks set=IF noshadow", "inst", "by=101"},
			{"100:F7F3 ebx=0 halted asks set=IF", "fault", "#DE"},
			{"100:F7F3 ebx=0 dying", "fault", "#DE"},
			{"100:F7F3 ebx=0 halted idt.limit=0", "fault", "dying"},
			{"100:CD80 halted", "inst", "soft=80:102"},
			{"100:CF halted set=NT", "fault", "#GP(0)"},
			{"100:CD80 halted asks gate=80:8:6030:0E00", "fault", "#NP(402)"},
		} {
			x.run(t, "Finish", finish, b)
		}
	}
}

// P19.2: what is done is the instruction that is handed in, wherever the processor is and whatever stands there.
func TestFinishOfWhatIsHandedIn(t *testing.T) {
	for _, b := range someBegun() {
		row{"100:0F0B eip=FFFFFFFF", "inst", "by=4 eax=11223344"}.run(t, "Finish", func(e *exec.Env) int {
			return step.Finish(e, mean(t, []byte{0xB8, 0x44, 0x33, 0x22, 0x11}))
		}, b)
		row{"100:0F0B eip=FFF00000 cr0=80000001", "inst", "soft=80:FFF00002"}.run(t, "Finish", func(e *exec.Env) int {
			return step.Finish(e, mean(t, []byte{0xCD, 0x80}))
		}, b)
	}
}

// P19.2: an end of an interrupt of a size that is none is a fault.
func TestIretOfNoSize(t *testing.T) {
	for _, size := range []int{0, 1, 3, -4, 8, 1<<32 + 4} {
		for _, b := range someBegun() {
			row{"words=9000:200,8,202", "fault", "#GP(0)"}.run(t, "Finish", func(e *exec.Env) int {
				return step.Finish(e, api.Inst{Op: api.IIret, Size: size, Len: 1})
			}, b)
		}
	}
}

// P19.2: the tick comes behind what is done: a port is asked at the time ahead of it.
func TestTickComesBehind(t *testing.T) {
	e := program(t, "", "E440E440")
	other := program(t, "", "E440E440")
	for _, b := range []*exec.Env{e, other} {
		b.Bus.Out(0x43, 1, 0x14) // the lower byte, mode 2
		b.Bus.Out(0x40, 1, 100)
	}
	seen := map[uint32]bool{}
	for range 2 {
		want, _ := other.Bus.In(0x40, 1)
		other.Bus.Tick(1)
		if k := step.Step(e); k != inst || e.Cpu.R[api.Eax]&0xFF != want || e.Bus.Now() != other.Bus.Now() {
			t.Errorf("%d: %d; want %d", k, e.Cpu.R[api.Eax]&0xFF, want)
		}
		seen[want] = true
	}
	if len(seen) != 2 {
		t.Errorf("%v", seen)
	}
}
