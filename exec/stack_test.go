package exec_test

import (
	"fmt"
	"testing"
)

// P17.3, IPush: registers (ESP as it was ahead of it), numbers, memory, also by ESP.
func TestPushes(t *testing.T) {
	runAll(t, []row{
		{"50", "eax=12345678", "8FFC:78563412 esp=8FFC"},
		{"57", "edi=12345678", "8FFC:78563412 esp=8FFC"},
		{"66 53", "ebx=12345678", "8FFE:7856 esp=8FFE"},
		{"54", "", "8FFC:00900000 esp=8FFC"},
		{"66 54", "", "8FFE:0090 esp=8FFE"},
		{"68 78563412", "", "8FFC:78563412 esp=8FFC"},
		{"66 68 7856", "", "8FFE:7856 esp=8FFE"},
		{"6A FE", "", "8FFC:FEFFFFFF esp=8FFC"},
		{"6A 7E", "", "8FFC:7E000000 esp=8FFC"},
		{"66 6A FE", "", "8FFE:FEFF esp=8FFE"},
		{"FF F3", "ebx=12345678", "8FFC:78563412 esp=8FFC"},
		{"66 FF F3", "ebx=12345678", "8FFE:7856 esp=8FFE"},
		{"FF 36", "2000:78563412", "8FFC:78563412 esp=8FFC"},
		{"66 FF 36", "2000:7856", "8FFE:7856 esp=8FFE"},
		{"FF 34 24", "9000:78563412", "8FFC:78563412 esp=8FFC"},
		{"FF 74 24 04", "9004:78563412", "8FFC:78563412 esp=8FFC"},
		{"66 FF 74 24 04", "9004:7856", "8FFE:7856 esp=8FFE"},
		{"FF 36", "ds=28 2000:78563412", "8FFC:78563412 esp=8FFC"},
		{"FF 36", "ds.limit=2002", "#GP(0)"},
		{"FF 36", "ds.limit=2002 ss.null", "#GP(0)"},
	})
}

// P17.3, IPush and IPop of segment registers: as many bytes as the size says; of what is popped the lower two.
func TestStackOfSegments(t *testing.T) {
	for _, x := range []struct{ name, push, pop string }{
		{"es", "06", "07"}, {"cs", "0E", ""}, {"ss", "16", "17"}, {"ds", "1E", "1F"}, {"fs", "0F A0", "0F A1"}, {"gs", "0F A8", "0F A9"},
	} {
		sel := "10"
		if x.name == "cs" {
			sel = "38"
		}
		runAll(t, []row{
			{x.push, x.name + "=" + sel, "8FFC:" + sel + "000000 esp=8FFC"},
			{"66" + x.push, x.name + "=" + sel, "8FFE:" + sel + "00 esp=8FFE"},
		})
		if x.pop == "" {
			continue
		}
		shadow := ""
		if x.name == "ss" {
			shadow = " shadow"
		}
		runAll(t, []row{
			{x.pop, x.name + ".base=0 9000:1000FFFF", x.name + "=10 esp=9004" + shadow},
			{"66" + x.pop, "9000:1000", x.name + "=10 esp=9002" + shadow},
			{x.pop, "9000:C4000000", "#GP(C4)"},
			{x.pop, "9000:C8000000", "#GP(C8)"},
			{"66" + x.pop, "9000:0B00", "#GP(8)"},
			{x.pop, "ss.limit=9002", "#SS(0)"},
		})
		if x.name != "ss" {
			runAll(t, []row{
				{x.pop, "9000:23000000", x.name + "=23 esp=9004"},
				{x.pop, "9000:00000000", x.name + "=0 esp=9004"},
				{x.pop, "9000:0300FFFF", x.name + "=3 esp=9004"},
				{x.pop, "9000:30000000", "#NP(30)"},
			})
		}
	}
	runAll(t, []row{
		{"17", "9000:00000000", "#GP(0)"},
		{"17", "9000:30000000", "#SS(30)"},
		{"06", "es=3", "8FFC:03000000 esp=8FFC"},
		{"06", "es=23", "8FFC:23000000 esp=8FFC"},
		{"17", "9000:C0000000", "ss=C0 esp=9004 shadow"},
	})
}

// P17.3, IPop: into ESP, too, which is then what was popped; memory's offset is summed when ESP is more.
func TestPops(t *testing.T) {
	runAll(t, []row{
		{"58", "9000:78563412", "eax=12345678 esp=9004"},
		{"5F", "9000:78563412", "edi=12345678 esp=9004"},
		{"66 5B", "9000:7856", "bx=5678 esp=9002"},
		{"5C", "9000:78563412", "esp=12345678"},
		{"66 5C", "9000:7856", "esp=5678"},
		{"66 5C", "esp=1234FFFE ss.base=EDCB9002 9000:7856", "esp=12355678"},
		{"8F C3", "9000:78563412", "ebx=12345678 esp=9004"},
		{"8F 06", "9000:78563412", "2000:78563412 esp=9004"},
		{"66 8F 06", "9000:7856", "2000:7856 esp=9002"},
		{"8F 04 24", "9000:78563412", "9004:78563412 esp=9004"},
		{"8F 44 24 08", "9000:78563412", "900C:78563412 esp=9004"},
		{"66 8F 44 24 08", "9000:7856", "900A:7856 esp=9002"},
		{"8F 06", "ds=28", "#GP(0)"},
		{"8F 06", "ds.limit=2002 ", "#GP(0)"},
		{"8F 06", "ds=28 ss.null", "#SS(0)"},
		{"8F 04 24", "ss.limit=9006", "#SS(0)"},
		{"8F 04 24", "ss.limit=9007 9000:78563412", "9004:78563412 esp=9004"},
	})
}

// P17.3: pushed and popped at ESP 0 to 4 and at the other end, at the segment's end, and where it goes down.
func TestEndsOfTheStack(t *testing.T) {
	runAll(t, []row{
		{"68 78563412", "esp=4 ss.base=5000", "5000:78563412 esp=0"},
		{"68 78563412", "esp=3 ss.base=5000", "#SS(0)"},
		{"68 78563412", "esp=2 ss.base=5000", "#SS(0)"},
		{"68 78563412", "esp=1 ss.base=5000", "#SS(0)"},
		{"68 78563412", "esp=0 ss.base=5000", "4FFC:78563412 esp=FFFFFFFC"},
		{"66 68 7856", "esp=4 ss.base=5000", "5002:7856 esp=2"},
		{"66 68 7856", "esp=3 ss.base=5000", "5001:7856 esp=1"},
		{"66 68 7856", "esp=2 ss.base=5000", "5000:7856 esp=0"},
		{"66 68 7856", "esp=1 ss.base=5000", "#SS(0)"},
		{"66 68 7856", "esp=0 ss.base=5000", "4FFE:7856 esp=FFFFFFFE"},
		{"5B", "esp=FFFFFFFC ss.base=5000 4FFC:78563412", "ebx=12345678 esp=0"},
		{"5B", "esp=FFFFFFFD ss.base=5000", "#SS(0)"},
		{"5B", "esp=FFFFFFFF ss.base=5000", "#SS(0)"},
		{"66 5B", "esp=FFFFFFFE ss.base=5000 4FFE:7856", "bx=5678 esp=0"},
		{"66 5B", "esp=FFFFFFFF ss.base=5000", "#SS(0)"},
		{"5B", "esp=0 ss.base=5000 5000:78563412", "ebx=12345678 esp=4"},
		{"68 78563412", "ss.limit=8FFF", "8FFC:78563412 esp=8FFC"},
		{"68 78563412", "ss.limit=8FFE", "#SS(0)"},
		{"5B", "ss.limit=9003 9000:78563412", "ebx=12345678 esp=9004"},
		{"5B", "ss.limit=9002", "#SS(0)"},
		{"68 78563412", "ss.type=6 ss.limit=8FFB", "8FFC:78563412 esp=8FFC"},
		{"68 78563412", "ss.type=6 ss.limit=8FFC", "#SS(0)"},
		{"66 68 7856", "ss.type=6 ss.limit=8FFC", "8FFE:7856 esp=8FFE"},
		{"68 78563412", "ss.type=0", "#SS(0)"},
		{"5B", "ss.type=0 9000:78563412", "ebx=12345678 esp=9004"},
		{"68 78563412", "ss.null", "#SS(0)"},
		{"5B", "ss.null", "#SS(0)"},
		{"5B", "ss.absent", "#SS(0)"},
		{"68 78563412", "esp=12345000 ss.base=EDCC0000", "4FFC:78563412 esp=12344FFC"},
	})
}

// P17.3, IPusha and IPopa: the registers in their order, ESP as it was, and into nothing.
func TestAllRegisters(t *testing.T) {
	const (
		wide = "00300000 00200000 00910000 00900000 B3B2B1B0 D3D2D1D0 C3C2C1C0 A3A2A1A0"
		half = "0030 0020 0091 0090 B3B2 D3D2 C3C2 A3A2"
	)
	runAll(t, []row{
		{"60", "", "8FE0:" + packed(wide) + " esp=8FE0"},
		{"66 60", "", "8FF0:" + packed(half) + " esp=8FF0"},
		{"61", "9000:" + packed("01000001 02000002 03000003 04000004 05000005 06000006 07000007 08000008"),
			"edi=1000001 esi=2000002 ebp=3000003 ebx=5000005 edx=6000006 ecx=7000007 eax=8000008 esp=9020"},
		{"66 61", "9000:" + packed("0110 0220 0330 0440 0550 0660 0770 0880"), "di=1001 si=2002 bp=3003 bx=5005 dx=6006 cx=7007 ax=8008 esp=9010"},
		{"60", "esp=20 ss.base=5000", "5000:" + packed("00300000 00200000 00910000 20000000 B3B2B1B0 D3D2D1D0 C3C2C1C0 A3A2A1A0") + " esp=0"},
		{"60", "esp=10 ss.base=5000", "4FF0:" + packed("00300000 00200000 00910000 10000000 B3B2B1B0 D3D2D1D0 C3C2C1C0 A3A2A1A0") + " esp=FFFFFFF0"},
	})
}

func packed(words string) string { return fmt.Sprintf("%x", bytesOf(words)) }

// P17.1, P17.3: a fault in the middle leaves the processor as it was, and what was stored ahead of it.
func TestFaultsAmongAllRegisters(t *testing.T) {
	runAll(t, []row{
		{"60", "ss.type=6 ss.limit=8FEF", "#SS(0) 8FF0:" + packed("B3B2B1B0 D3D2D1D0 C3C2C1C0 A3A2A1A0")},
		{"60", "ss.type=6 ss.limit=8FE0", "#SS(0) 8FE4:" + packed("00200000 00910000 00900000 B3B2B1B0 D3D2D1D0 C3C2C1C0 A3A2A1A0")},
		{"60", "ss.type=6 ss.limit=8FFC", "#SS(0)"},
		{"66 60", "ss.type=6 ss.limit=8FF9", "#SS(0) 8FFA:" + packed("D3D2 C3C2 A3A2")},
		{"60", "esp=E ss.base=5000", "#SS(0) 5002:" + packed("D3D2D1D0 C3C2C1C0 A3A2A1A0")},
		{"60", "ss.type=0", "#SS(0)"},
		{"61", "ss.limit=901E", "#SS(0)"},
		{"61", "ss.limit=9002", "#SS(0)"},
		{"61", "ss.limit=900E", "#SS(0)"},
		{"66 61", "ss.limit=900E", "#SS(0)"},
		{"61", "esp=FFFFFFF2 ss.base=5000", "#SS(0)"},
	})
}

// P17.3, IPushf and IPopf: which flags are as popped hangs on the ring and IOPL as they were.
func TestFlagsOnTheStack(t *testing.T) {
	runAll(t, []row{
		{"9C", "flags=89ABCDEF", "8FFC:EFCDAB89 esp=8FFC"},
		{"9C", "flags=76543210 ring=3", "8FFC:10325476 esp=8FFC"},
		{"66 9C", "flags=89ABCDEF", "8FFE:EFCD esp=8FFE"},
		{"9C", "ss.null", "#SS(0)"},

		{"9D", "flags=2 9000:FFFFFFFF", "flags=7FD7 esp=9004"},
		{"9D", "flags=0 9000:00000000", "flags=2 esp=9004"},
		{"9D", "flags=FFFFFFFF 9000:00000000", "flags=FFFF802A esp=9004"},
		{"66 9D", "flags=2 9000:FFFF", "flags=7FD7 esp=9002"},
		{"66 9D", "flags=FFFFFFFF 9000:0000", "flags=FFFF802A esp=9002"},
		{"9D", "flags=2 9000:00020000", "flags=202 esp=9004"},
		{"9D", "flags=2 9000:00300000", "flags=3002 esp=9004"},
		{"9D", "flags=2 9000:00010000", "flags=102 esp=9004"},
		{"9D", "flags=2 9000:00040000", "flags=402 esp=9004"},
		{"9D", "flags=2 9000:00080000", "flags=802 esp=9004"},
		{"9D", "flags=2 9000:00400000", "flags=4002 esp=9004"},
		{"9D", "flags=2 9000:D5000000", "flags=D7 esp=9004"},
		{"9D", "flags=2 9000:2A80FFFF", "flags=2 esp=9004"},

		{"9D", "flags=FFFFFFFF ring=3 9000:00000000", "flags=FFFFB02A esp=9004"},
		{"9D", "flags=3002 ring=3 9000:FFCFFFFF", "flags=7FD7 esp=9004"},
		{"9D", "flags=FFFFCFFF ring=3 9000:00000000", "flags=FFFF822A esp=9004"},
		{"9D", "flags=2 ring=3 9000:FFFFFFFF", "flags=4DD7 esp=9004"},
		{"66 9D", "flags=2 ring=3 9000:FFFF", "flags=4DD7 esp=9002"},
		{"9D", "flags=2002 ring=3 9000:00020000", "flags=2002 esp=9004"},
		{"9D", "flags=2002 ring=2 9000:00020000", "flags=2202 esp=9004"},
		{"9D", "flags=1002 ring=2 9000:00020000", "flags=1002 esp=9004"},
		{"9D", "flags=1002 ring=1 9000:00020000", "flags=1202 esp=9004"},
		{"9D", "flags=2 ring=1 9000:00320000", "flags=2 esp=9004"},
		{"9D", "flags=1002 ring=1 9000:00320000", "flags=1202 esp=9004"},
		{"9D", "flags=2 ring=0 9000:00320000", "flags=3202 esp=9004"},
		{"9D", "ss.limit=9002", "#SS(0)"},
	})
}

// P17.3, ISahf and ILahf: five flags, and bit 1.
func TestFlagsInAh(t *testing.T) {
	runAll(t, []row{
		{"9E", "flags=0 ah=FF", "flags=D7"},
		{"9E", "flags=0 ah=0", "flags=2"},
		{"9E", "flags=FFFFFFFF ah=0", "flags=FFFFFF2A"},
		{"9E", "flags=2 ah=41", "flags=43"},
		{"9F", "flags=FFFFFFFF", "ah=D7"},
		{"9F", "flags=0", "ah=2"},
		{"9F", "flags=FFFFFF28 ", "ah=2"},
		{"9F", "flags=95", "ah=97"},
	})
}

// P17.3, ILeave.
func TestLeave(t *testing.T) {
	runAll(t, []row{
		{"C9", "ebp=2000 2000:78563412", "ebp=12345678 esp=2004"},
		{"66 C9", "ebp=12342000 ss.base=EDCC0000 2000:7856", "ebp=12345678 esp=12342002"},
		{"C9", "ebp=2000 ss.limit=2003 2000:78563412", "ebp=12345678 esp=2004"},
		{"C9", "ebp=2000 ss.limit=2002", "#SS(0)"},
		{"C9", "ebp=FFFFFFFC ss.base=5000 4FFC:78563412", "ebp=12345678 esp=0"},
		{"C9", "ds.null 9100:78563412", "ebp=12345678 esp=9104"},
	})
}
