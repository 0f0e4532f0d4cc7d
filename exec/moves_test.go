package exec_test

import (
	"fmt"
	"strings"
	"testing"

	"drawloom/api"
	"drawloom/bitop"
)

// P17.3, IMov: each form, each size; what is not written of a register stays.
func TestMoves(t *testing.T) {
	runAll(t, []row{
		{"88 E3", "bl=11 ah=22", "bl=22"},
		{"88 FD", "ch=11 bh=22", "ch=22"},
		{"88 C7", "al=11", "bh=11"},
		{"88 3E", "bh=22", "2000:22"},
		{"89 D3", "edx=12345678", "ebx=12345678"},
		{"89 0E", "ecx=12345678", "2000:78563412"},
		{"66 89 D3", "edx=12345678", "bx=5678"},
		{"66 89 0E", "ecx=12345678", "2000:7856"},
		{"8A E3", "bl=33", "ah=33"},
		{"8A FC", "ah=33", "bh=33"},
		{"8A 3E", "2000:44", "bh=44"},
		{"8B D3", "ebx=12345678", "edx=12345678"},
		{"8B 0E", "2000:78563412", "ecx=12345678"},
		{"66 8B 0E", "2000:7856", "cx=5678"},
		{"66 8B E3", "bx=5678", "sp=5678"},
		{"A0 00200000", "2000:44", "al=44"},
		{"A1 00200000", "2000:78563412", "eax=12345678"},
		{"66 A1 00200000", "2000:7856", "ax=5678"},
		{"A2 00200000", "al=44", "2000:44"},
		{"A3 00200000", "eax=12345678", "2000:78563412"},
		{"66 A3 00200000", "eax=12345678", "2000:7856"},
		{"B0 5A", "", "al=5A"},
		{"B7 5A", "", "bh=5A"},
		{"BF 78563412", "", "edi=12345678"},
		{"66 BC 7856", "", "sp=5678"},
		{"C6 C5 5A", "", "ch=5A"},
		{"C6 06 5A", "", "2000:5A"},
		{"C7 C5 78563412", "", "ebp=12345678"},
		{"C7 06 78563412", "", "2000:78563412"},
		{"66 C7 C5 7856", "", "bp=5678"},
		{"66 C7 06 7856", "", "2000:7856"},
		{"8B 06", "ds=28 2000:78563412", "eax=12345678"},
		{"89 06", "ds=28", "#GP(0)"},
		{"C6 06 5A", "ds=28", "#GP(0)"},
		{"8B 06", "ds=0", "#GP(0)"},
		{"36 8B 06", "ss.limit=2002", "#SS(0)"},
		{"8B 45 00", "ss.limit=9102", "#SS(0)"},
		{"36 89 06", "ss.limit=2003 eax=1", "2000:01000000"},
	})
}

// P17.3, IMov from a segment register: into memory go two bytes, into a register as many as v is.
func TestMovesFromSegments(t *testing.T) {
	for n, name := range segmentNames {
		sel := uint32(0x23)
		if name == "cs" {
			sel = 0x38
		}
		before := fmt.Sprintf("%s=%x", name, sel)
		modrm := func(base int) string { return fmt.Sprintf("%02X", base+8*n) }
		runAll(t, []row{
			{"8C" + modrm(0xC3), before, at("ebx", 4, sel)},
			{"66 8C" + modrm(0xC3), before, at("bx", 2, sel)},
			{"8C" + modrm(0x06), before, at("m2000", 2, sel)},
			{"66 8C" + modrm(0x06), before, at("m2000", 2, sel)},
		})
	}
	runAll(t, []row{
		{"8C 0E", "ds=28", "#GP(0)"},
		{"8C C0", "es=3", "eax=3"},
	})
}

// P17.3, IMov into a segment register: it is loaded.
func TestMovesIntoSegments(t *testing.T) {
	for n, name := range segmentNames {
		if name == "cs" {
			continue
		}
		shadow := ""
		if name == "ss" {
			shadow = " shadow"
		}
		code := fmt.Sprintf("%02X", 0xC3+8*n)
		fromMemory := fmt.Sprintf("%02X", 0x06+8*n)
		runAll(t, []row{
			{"8E" + code, name + "=0 ebx=12340010", name + "=10" + shadow},
			{"66 8E" + code, "ebx=FFFF0010", name + "=10" + shadow},
			{"36 8E" + fromMemory, "2000:1000", name + "=10" + shadow},
			{"8E" + code, "bx=C4", "#GP(C4)"},
			{"8E" + code, "bx=C8", "#GP(C8)"},
			{"36 8E" + fromMemory, "ss.limit=2000", "#SS(0)"},
		})
		if name != "ss" {
			runAll(t, []row{
				{"8E" + code, "bx=23", name + "=23"},
				{"8E" + code, "bx=0", name + "=0"},
				{"8E" + code, "bx=3", name + "=3"},
				{"8E" + code, "bx=30", "#NP(30)"},
				{"8E" + code, "bx=13", "#GP(10)"},
			})
		}
	}
	runAll(t, []row{
		{"8E D3", "bx=0", "#GP(0)"},
		{"8E D3", "bx=3", "#GP(0)"},
		{"8E D3", "bx=11", "#GP(10)"},
		{"8E D3", "bx=20", "#GP(20)"},
		{"8E D3", "bx=28", "#GP(28)"},
		{"8E D3", "bx=30", "#SS(30)"},
		{"8E D3", "bx=23 ring=3", "ss=23 shadow"},
		{"8E DB", "bx=13 ring=3", "#GP(10)"},
		{"8E DB", "bx=23 ring=3", "ds=23"},
	})
}

// P17.3, IMovx: from bytes and from two of them, with noughts and with the sign.
func TestWiderMoves(t *testing.T) {
	runAll(t, []row{
		{"0F B6 D3", "ebx=89", "edx=89"},
		{"0F B6 D7", "bh=89", "edx=89"},
		{"0F B6 16", "2000:89AA", "edx=89"},
		{"66 0F B6 D7", "bh=89", "dx=89"},
		{"66 0F B6 16", "2000:89AA", "dx=89"},
		{"0F B7 D3", "bx=89AB", "edx=89AB"},
		{"0F B7 16", "2000:AB89CC", "edx=89AB"},
		{"66 0F B7 D3", "bx=89AB", "dx=89AB"},
		{"0F BE D3", "bl=89", "edx=FFFFFF89"},
		{"0F BE D7", "bh=79", "edx=79"},
		{"0F BE 16", "2000:89AA", "edx=FFFFFF89"},
		{"66 0F BE D7", "bh=89", "dx=FF89"},
		{"66 0F BE 16", "2000:79AA", "dx=79"},
		{"0F BF D3", "bx=89AB", "edx=FFFF89AB"},
		{"0F BF 16", "2000:AB79CC", "edx=79AB"},
		{"66 0F BF 16", "2000:AB89CC", "dx=89AB"},
		{"0F B6 16", "ds.limit=2000 2000:89", "edx=89"},
		{"0F B7 16", "ds.limit=2000", "#GP(0)"},
	})
}

// P17.3, IXchg: of registers, also parts of one, of memory, and of memory that lies by the register it is exchanged with.
func TestExchanges(t *testing.T) {
	runAll(t, []row{
		{"86 E0", "al=11 ah=22", "al=22 ah=11"},
		{"86 FD", "ch=11 bh=22", "ch=22 bh=11"},
		{"86 26", "2000:33 ah=44", "2000:44 ah=33"},
		{"87 D3", "ebx=11111111 edx=22222222", "ebx=22222222 edx=11111111"},
		{"87 1E", "2000:78563412 ebx=9ABCDEF0", "2000:F0DEBC9A ebx=12345678"},
		{"66 87 D3", "ebx=11111111 edx=22222222", "bx=2222 dx=1111"},
		{"66 87 1E", "2000:7856 ebx=9ABCDEF0", "2000:F0DE bx=5678"},
		{"87 36", "2000:78563412", "2000:00200000 esi=12345678"},
		{"87 C0", "eax=5", "eax=5"},
		{"91", "eax=1 ecx=2", "eax=2 ecx=1"},
		{"94", "eax=1 esp=2", "eax=2 esp=1"},
		{"97", "eax=1 edi=2", "eax=2 edi=1"},
		{"66 93", "eax=11111111 ebx=22222222", "ax=2222 bx=1111"},
		{"87 1E", "ds=28", "#GP(0)"},
		{"86 1E", "ds.limit=1FFF", "#GP(0)"},
		{"36 87 1E", "ss=28", "#SS(0)"},
	})
}

// P17.3, ILea: the offset alone, whatever the segment lets.
func TestAddresses(t *testing.T) {
	runAll(t, []row{
		{"8D 1D 78563412", "", "ebx=12345678"},
		{"66 8D 1D 78563412", "", "bx=5678"},
		{"8D 5C 8E 04", "esi=100 ecx=20", "ebx=184"},
		{"8D 5C 8E FC", "esi=100 ecx=FFFFFFF0", "ebx=BC"},
		{"66 8D 5C 8E 04", "esi=FFF0 ecx=20", "bx=74"},
		{"8D 36", "ds=0", ""},
		{"8D 36", "ds.limit=0 ds.base=5000", ""},
		{"8D 64 24 04", "esp=9000", "esp=9004"},
		{"8D 04 C5 00000000", "eax=20000001", "eax=8"},
	})
}

// P17.3: memory's offset, of each base, index and scale, with a number and without, cut to 32 bits.
func TestOffsets(t *testing.T) {
	values := []uint32{0x80000001, 0x40000003, 0xFFFFFFFF, 0x12345, 0xFFFF9000, 0xC0000100, 0x7FFFFFFF, 0x33333333}
	var all []string
	for n, v := range values {
		all = append(all, fmt.Sprintf("%s=%x", wideNames[n], v))
	}
	before := strings.Join(all, " ")
	for base := range 8 {
		for index := range 8 {
			for scale := range 4 {
				sum := uint64(values[base]) + 0x89ABCDEF
				if index != 4 {
					sum += uint64(values[index]) << scale
				}
				sib := scale<<6 | index<<3 | base
				row{fmt.Sprintf("8D9C%02XEFCDAB89", sib), before, at("ebx", 4, uint32(sum%(1<<32)))}.run(t)
			}
		}
	}
	for index := range 8 {
		for scale := range 4 {
			sum := uint64(0x89ABCDEF)
			if index != 4 {
				sum += uint64(values[index]) << scale
			}
			row{fmt.Sprintf("8D1C%02XEFCDAB89", scale<<6|index<<3|5), before, at("ebx", 4, uint32(sum%(1<<32)))}.run(t)
		}
	}
	for base := range 8 {
		if base != 4 {
			row{fmt.Sprintf("8D%02X80", 0x58+base), before, at("ebx", 4, values[base]-128)}.run(t)
		}
	}
}

// P17.3: memory is read and written at its offset, which goes round, in its segment, which has a base.
func TestMemoryOperands(t *testing.T) {
	runAll(t, []row{
		{"8B 5C 8E 04", "esi=FFFFF000 ecx=C00 2004:78563412", "ebx=12345678"},
		{"8B 5C 8E 04", "esi=FFFFF000 ecx=C00 ds.base=FFFFF004 1008:78563412", "ebx=12345678"},
		{"89 5C 8E FC", "esi=80002000 ecx=20000000 ebx=12345678", "1FFC:78563412"},
		{"88 1C 0E", "esi=FFFFFFFF ecx=2001 bl=5", "2000:05"},
		{"88 1D 00200000", "bl=5 ds.base=10", "2010:05"},
		{"8B 45 08", "ebp=2000 ss.base=100 ds.base=200 2108:78563412", "eax=12345678"},
		{"8B 44 24 08", "esp=2000 ss.base=100 ds.base=200 2108:78563412", "eax=12345678"},
		{"3E 8B 45 08", "ebp=2000 ss.base=100 ds.base=200 2208:78563412", "eax=12345678"},
		{"36 8B 06", "ss.base=100 ds.base=200 2100:78563412", "eax=12345678"},
	})
	for n, prefix := range []string{"26", "2E", "36", "3E", "64", "65"} {
		name := segmentNames[n]
		row{prefix + "8B1E", name + ".base=1300 3300:78563412", "ebx=12345678"}.run(t)
		row{prefix + "8B1E", name + ".limit=2003", "ebx=" + bigEndian(freshMemory()[0x2000:0x2004])}.run(t)
		if name == "ss" {
			row{prefix + "8B1E", name + ".limit=2002", "#SS(0)"}.run(t)
		} else {
			row{prefix + "8B1E", name + ".limit=2002", "#GP(0)"}.run(t)
		}
		if name != "cs" {
			row{prefix + "891E", name + ".base=1300 ebx=12345678", "3300:78563412"}.run(t)
		}
	}
}

// bigEndian are bytes as a number is written.
func bigEndian(b []byte) string {
	out := ""
	for _, one := range b {
		out = fmt.Sprintf("%02x", one) + out
	}
	return out
}

// P17.3, IWiden, IDivide, IBswap.
func TestWider(t *testing.T) {
	runAll(t, []row{
		{"98", "eax=12348765", "eax=FFFF8765"},
		{"98", "eax=FFFF7765", "eax=7765"},
		{"66 98", "eax=12345687", "eax=1234FF87"},
		{"66 98", "eax=1234FF77", "eax=12340077"},
		{"99", "eax=80000000", "edx=FFFFFFFF"},
		{"99", "eax=7FFFFFFF", "edx=0"},
		{"66 99", "eax=8000", "dx=FFFF"},
		{"66 99", "eax=FFFF7FFF", "dx=0"},
		{"0F C8", "eax=01020304", "eax=04030201"},
		{"0F CB", "ebx=80FF0001", "ebx=0100FF80"},
		{"0F CC", "esp=01020304", "esp=04030201"},
		{"0F CF", "edi=01020304", "edi=04030201"},
	})
}

// conditionFlags are all ways in which the five flags can be that conditions ask for.
func conditionFlags() []uint32 {
	var out []uint32
	for n := range uint32(32) {
		out = append(out, n&1*cf|n>>1&1*pf|n>>2&1*zf|n>>3&1*sf|n>>4&1*of)
	}
	return out
}

// P17.3, ISet and ICmov: each condition by all flags.
func TestConditions(t *testing.T) {
	for cc := range 16 {
		for _, flags := range conditionFlags() {
			holds, err := bitop.Cond(cc, flags)
			if err != api.OK {
				t.Fatal(err)
			}
			set, moved := "bh=0", ""
			if holds {
				set, moved = "bh=1", "edx=12345678"
			}
			row{fmt.Sprintf("0F%02XC7", 0x90+cc), names(flags) + " bh=5A", set}.run(t)
			row{fmt.Sprintf("0F%02XD3", 0x40+cc), names(flags) + " ebx=12345678", moved}.run(t)
		}
	}
	runAll(t, []row{
		{"0F 94 C3", "f=ZF", "bl=1"},
		{"0F 94 06", "f=ZF", "2000:01"},
		{"0F 94 06", "f=-", "2000:00"},
		{"0F 95 06", "f=-", "2000:01"},
		{"0F 9C C0", "f=SF", "al=1"},
		{"0F 97 C0", "f=CF", "al=0"},
		{"0F 94 06", "ds=28 f=-", "#GP(0)"},
		{"0F 44 16", "f=ZF 2000:78563412", "edx=12345678"},
		{"0F 44 16", "f=- 2000:78563412", ""},
		{"66 0F 44 16", "f=ZF 2000:7856", "dx=5678"},
		{"66 0F 44 D3", "f=ZF bx=5678", "dx=5678"},
		{"66 0F 44 D3", "f=- bx=5678", ""},
		{"0F 44 16", "f=ZF ds.limit=2002", "#GP(0)"},
		{"0F 44 16", "f=- ds.limit=2002", "#GP(0)"},
		{"0F 45 16", "f=ZF ds=0", "#GP(0)"},
		{"0F 44 16", "f=ZF ds=28 2000:78563412", "edx=12345678"},
	})
}

// P17.3, IBit: each of the four in each form, the number within the size.
func TestBits(t *testing.T) {
	for op := range 4 {
		byRegister := fmt.Sprintf("0F%02X", 0xA3+8*op)
		byNumber := fmt.Sprintf("0FBA%02X", 0xC3+8*(op+4))
		ofMemory := fmt.Sprintf("0FBA%02X", 0x06+8*(op+4))
		for _, f := range []form{
			{byRegister + "D3", 4, "ebx", "edx"}, {byRegister + "16", 4, "m2000", "edx"}, {"66" + byRegister + "D3", 2, "bx", "dx"}, {"66" + byRegister + "16", 2, "m2000", "dx"},
			{byNumber, 4, "ebx", "number 1"}, {ofMemory, 4, "m2000", "number 1"}, {"66" + byNumber, 2, "bx", "number 1"}, {"66" + ofMemory, 2, "m2000", "number 1"},
		} {
			for n, bit := range []uint32{0, 1, 7, 8, 15, 4} {
				for _, flags := range starts {
					a := pairs[n][0]
					result, marks, err := bitop.Bit(op, f.size, a, bit, flags)
					if err != api.OK {
						t.Fatal(err)
					}
					code, before, _ := f.rowOf(a, bit, flags)
					row{code, before, names(marks) + " " + at(f.a, f.size, result)}.run(t)
				}
			}
		}
	}
}

// P17.3, IBit: a register's number leads memory's operand away, on both sides; of a register, and by a number, only the remainder is looked at.
func TestBitsFarAway(t *testing.T) {
	runAll(t, []row{
		{"0F AB 16", "edx=1F 2000:00000000 f=-", "2000:00000080 f=-"},
		{"0F AB 16", "edx=20 2004:00000000 f=-", "2004:01000000 f=-"},
		{"0F AB 16", "edx=3F 2004:00000000 f=-", "2004:00000080 f=-"},
		{"0F AB 16", "edx=FFFFFFFF 1FFC:00000000 f=-", "1FFC:00000080 f=-"},
		{"0F AB 16", "edx=FFFFFFE0 1FFC:00000000 f=-", "1FFC:01000000 f=-"},
		{"0F AB 16", "edx=FFFFFFDF 1FF8:00000000 f=-", "1FF8:00000080 f=-"},
		{"0F B3 16", "edx=FFFF8000 1000:FFFFFFFF f=-", "1000:FEFFFFFF f=CF"},
		{"0F BB 16", "edx=8001 3000:00000000 f=-", "3000:02000000 f=-"},
		{"0F A3 16", "edx=8001 3000:02000000 f=-", "f=CF"},
		{"0F AB 16", "edx=80000000 ds.base=10000000 2000:00000000 f=-", "2000:01000000 f=-"},
		{"0F AB 16", "edx=7FFFFFFF ds.base=F0000000 1FFC:00000000 f=-", "1FFC:00000080 f=-"},
		{"0F A3 16", "edx=80000000 ds.base=10000000 2000:01000000 f=-", "f=CF"},
		{"66 0F AB 16", "edx=1000F 2000:00000000 f=-", "2000:0080 f=-"},
		{"66 0F AB 16", "edx=FFFF0010 2002:0000 f=-", "2002:0100 f=-"},
		{"66 0F AB 16", "edx=FFFF 1FFE:0000 f=-", "1FFE:0080 f=-"},
		{"66 0F AB 16", "edx=FFF0 1FFE:0000 f=-", "1FFE:0100 f=-"},
		{"66 0F AB 16", "edx=FFEF 1FFC:0000 f=-", "1FFC:0080 f=-"},
		{"66 0F AB 16", "edx=8000 1000:0000 f=-", "1000:0100 f=-"},
		{"66 0F AB 16", "edx=7FFF 2FFE:0000 f=-", "2FFE:0080 f=-"},
		{"66 0F A3 16", "edx=7FFF 2FFE:0080 f=-", "f=CF"},
		{"0F AB 36", "2400:00000000 f=-", "2400:01000000 f=-"},
		{"0F AB D3", "edx=FFFFFFFF ebx=0 f=-", "ebx=80000000 f=-"},
		{"0F AB D3", "edx=25 ebx=0 f=-", "ebx=20 f=-"},
		{"66 0F AB D3", "edx=11 ebx=0 f=-", "ebx=2 f=-"},
		{"0F BA 2E 25", "2000:00000000 f=-", "2000:20000000 f=-"},
		{"0F BA 2E FF", "2000:00000000 f=-", "2000:00000080 f=-"},
		{"66 0F BA 2E 1F", "2000:00000000 f=-", "2000:0080 f=-"},
		{"0F BA E3 20", "ebx=1 f=-", "f=CF"},
		{"0F AB 16", "edx=20 ds.limit=2003", "#GP(0)"},
		{"0F AB 16", "edx=1F ds.limit=2003 2000:00000000 f=-", "2000:00000080 f=-"},
		{"0F AB 16", "edx=FFFFFFFF esi=0 ds.limit=FFFFFFFE", "#GP(0)"},
		{"0F A3 16", "ds=28 edx=3 2000:08000000 f=-", "f=CF"},
		{"0F BA 26 03", "ds=28 2000:08000000 f=-", "f=CF"},
		{"0F AB 16", "ds=28 edx=3", "#GP(0)"},
		{"0F B3 16", "ds=28 edx=3", "#GP(0)"},
		{"0F BB 16", "ds=28 edx=3", "#GP(0)"},
		{"0F BA 2E 03", "ds=28", "#GP(0)"},
		{"0F BA 36 03", "ds=28", "#GP(0)"},
		{"0F BA 3E 03", "ds=28", "#GP(0)"},
	})
}

// P17.3, IScan: from below and above; of 0 nothing is written but ZF.
func TestScans(t *testing.T) {
	runAll(t, []row{
		{"0F BC D3", "ebx=28 f=ZF+CF+OF", "edx=3 f=CF+OF"},
		{"0F BD D3", "ebx=28 f=ZF", "edx=5 f=-"},
		{"0F BC D3", "ebx=80000000 f=-", "edx=1F f=-"},
		{"0F BD D3", "ebx=1 f=-", "edx=0 f=-"},
		{"0F BC D3", "ebx=0 f=CF+SF+PF", "f=ZF+CF+SF+PF"},
		{"0F BD D3", "ebx=0 f=-", "f=ZF"},
		{"66 0F BC D3", "ebx=10000 f=-", "f=ZF"},
		{"66 0F BC D3", "ebx=18000 f=-", "dx=F f=-"},
		{"66 0F BD D3", "ebx=FFFF0006 f=-", "dx=2 f=-"},
		{"0F BC 16", "2000:00000100 f=-", "edx=10 f=-"},
		{"0F BD 16", "2000:00000100 f=-", "edx=10 f=-"},
		{"66 0F BD 16", "2000:0003 f=-", "dx=9 f=-"},
		{"0F BD 16", "ds=28 2000:FF000000 f=-", "edx=7 f=-"},
		{"0F BC 16", "ds.limit=2002", "#GP(0)"},
		{"66 0F BC 16", "ds.limit=2001 2000:0200 f=-", "dx=1 f=-"},
	})
}
