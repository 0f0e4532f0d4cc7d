package exec_test

import (
	"fmt"
	"strings"
	"testing"

	"drawloom/alu"
	"drawloom/api"
	"drawloom/muldiv"
	"drawloom/shift"
)

// form is a way in which an instruction has its operands: bytes ahead of a number, if there is one, and where its operands are. A place is a register's name, or a linear address with an m ahead; DS:ESI is m2000.
type form struct {
	code string
	size int
	a, b string
}

// at is the term that says that a place has a value.
func at(place string, size int, v uint32) string {
	if place[0] == 'm' {
		return place[1:] + ":" + little(size, v)
	}
	return fmt.Sprintf("%s=%x", place, cut(size, v))
}

// little are the bytes of a value, the lowest first, as they are written in a row.
func little(size int, v uint32) string {
	return fmt.Sprintf("%x", word(v)[:size])
}

func cut(size int, v uint32) uint32 { return uint32(uint64(v) % (1 << (8 * size))) }

// names are flags as they are written in a row.
func names(flags uint32) string {
	var out []string
	for _, name := range []string{"CF", "PF", "AF", "ZF", "SF", "OF"} {
		if flags&flagNames[name] != 0 {
			out = append(out, name)
		}
	}
	if out == nil {
		return "f=-"
	}
	return "f=" + strings.Join(out, "+")
}

// pairs are values of which no two can be taken for each other, at the ends of sizes too.
var pairs = [][2]uint32{
	{0x11223344, 0x01020305}, {0x80808080, 0x7F7F7F7F}, {0xFFFFFFFF, 1}, {5, 7}, {0x80000000, 0xFFFFFFFF}, {0x0F0F0F0F, 0x0F0F0F0F},
	{0x00008000, 0x00008001}, {0x12, 0x80},
}

// starts are flags ahead of an instruction: of each one and the next but one CF differs.
var starts = []uint32{0, status, cf, of | zf | af}

// aluForms are those of the eight operations that have two operands; n is the operation's number in the opcode.
func aluForms(n int) []form {
	first := fmt.Sprintf("%02X", 8*n)
	wide := fmt.Sprintf("%02X", 8*n+1)
	turned := fmt.Sprintf("%02X", 8*n+2)
	wideTurned := fmt.Sprintf("%02X", 8*n+3)
	extra := func(base int) string { return fmt.Sprintf("%02X", base+8*n) }
	return []form{
		{first + "E3", 1, "bl", "ah"}, {first + "CE", 1, "dh", "cl"}, {first + "F8", 1, "al", "bh"}, {first + "3E", 1, "m2000", "bh"}, {first + "16", 1, "m2000", "dl"},
		{wide + "D3", 4, "ebx", "edx"}, {wide + "0E", 4, "m2000", "ecx"}, {"66" + wide + "F0", 2, "ax", "si"}, {"66" + wide + "3E", 2, "m2000", "di"},
		{turned + "E3", 1, "ah", "bl"}, {turned + "3E", 1, "bh", "m2000"},
		{wideTurned + "D3", 4, "edx", "ebx"}, {wideTurned + "0E", 4, "ecx", "m2000"}, {"66" + wideTurned + "EB", 2, "bp", "bx"}, {"66" + wideTurned + "06", 2, "ax", "m2000"},
		{fmt.Sprintf("%02X", 8*n+4), 1, "al", "number 1"}, {fmt.Sprintf("%02X", 8*n+5), 4, "eax", "number 4"}, {fmt.Sprintf("66%02X", 8*n+5), 2, "ax", "number 2"},
		{"80" + extra(0xC7), 1, "bh", "number 1"}, {"80" + extra(0x06), 1, "m2000", "number 1"},
		{"81" + extra(0xC7), 4, "edi", "number 4"}, {"81" + extra(0x06), 4, "m2000", "number 4"}, {"6681" + extra(0xC1), 2, "cx", "number 2"}, {"6681" + extra(0x06), 2, "m2000", "number 2"},
		{"83" + extra(0xC7), 4, "edi", "number -1"}, {"83" + extra(0x06), 4, "m2000", "number -1"}, {"6683" + extra(0xC1), 2, "cx", "number -1"}, {"6683" + extra(0x06), 2, "m2000", "number -1"},
	}
}

// rowOf is a row of a form: what is ahead, and then the code with the number that stands behind it, if it has one; b is that, cut as it is then.
func (f form) rowOf(a, b, flags uint32) (code, before string, was uint32) {
	code, before = f.code, names(flags)+" "
	kind, is := strings.CutPrefix(f.b, "number ")
	switch {
	case f.b == "":
	case !is:
		before += at(f.b, f.size, b) + " "
	case kind == "-1":
		b = uint32(int32(int8(b)))
		code += little(1, b)
	default:
		code += little(int(kind[0]-'0'), b)
	}
	return code, before + at(f.a, f.size, a), b
}

// sum holds a form of an operation against what alu says of it.
func sum(t *testing.T, f form, op int) {
	t.Helper()
	for n, pair := range pairs {
		for _, flags := range []uint32{starts[n%4], starts[(n+2)%4]} {
			code, before, b := f.rowOf(pair[0], pair[1], flags)
			result, marks, err := alu.Do(op, f.size, pair[0], b, flags)
			if err != api.OK {
				t.Fatalf("alu.Do(%d, %d): %d", op, f.size, err)
			}
			row{code, before, names(marks) + " " + at(f.a, f.size, result)}.run(t)
		}
	}
}

// P17.3, IAlu: each operation of two operands in each form, Cmp among them, which writes nothing.
func TestSums(t *testing.T) {
	for n := range 8 {
		for _, f := range aluForms(n) {
			sum(t, f, n)
		}
	}
}

// P17.3, IAlu: Test, Inc, Dec, Neg and Not.
func TestOtherSums(t *testing.T) {
	for _, f := range []form{
		{"84E3", 1, "bl", "ah"}, {"843E", 1, "m2000", "bh"}, {"85D3", 4, "ebx", "edx"}, {"850E", 4, "m2000", "ecx"}, {"6685F0", 2, "ax", "si"}, {"66853E", 2, "m2000", "di"},
		{"A8", 1, "al", "number 1"}, {"A9", 4, "eax", "number 4"}, {"66A9", 2, "ax", "number 2"},
		{"F6C7", 1, "bh", "number 1"}, {"F606", 1, "m2000", "number 1"}, {"F60E", 1, "m2000", "number 1"}, {"F7C7", 4, "edi", "number 4"}, {"F706", 4, "m2000", "number 4"}, {"66F7C1", 2, "cx", "number 2"}, {"66F706", 2, "m2000", "number 2"},
	} {
		sum(t, f, api.Test)
	}
	for op, forms := range map[int][]form{
		api.Not: {{"F6D5", 1, "ch", ""}, {"F6D1", 1, "cl", ""}, {"F616", 1, "m2000", ""}, {"F7D5", 4, "ebp", ""}, {"F716", 4, "m2000", ""}, {"66F7D5", 2, "bp", ""}, {"66F716", 2, "m2000", ""}},
		api.Neg: {{"F6DD", 1, "ch", ""}, {"F6D9", 1, "cl", ""}, {"F61E", 1, "m2000", ""}, {"F7DD", 4, "ebp", ""}, {"F71E", 4, "m2000", ""}, {"66F7DD", 2, "bp", ""}, {"66F71E", 2, "m2000", ""}},
		api.Inc: {{"FEC5", 1, "ch", ""}, {"FE06", 1, "m2000", ""}, {"FFC5", 4, "ebp", ""}, {"FF06", 4, "m2000", ""}, {"66FFC5", 2, "bp", ""}, {"66FF06", 2, "m2000", ""}, {"40", 4, "eax", ""}, {"44", 4, "esp", ""}, {"47", 4, "edi", ""}, {"6643", 2, "bx", ""}},
		api.Dec: {{"FECD", 1, "ch", ""}, {"FE0E", 1, "m2000", ""}, {"FFCD", 4, "ebp", ""}, {"FF0E", 4, "m2000", ""}, {"66FFCD", 2, "bp", ""}, {"66FF0E", 2, "m2000", ""}, {"48", 4, "eax", ""}, {"4C", 4, "esp", ""}, {"4F", 4, "edi", ""}, {"664B", 2, "bx", ""}},
	} {
		for _, f := range forms {
			sum(t, f, op)
		}
	}
}

// P17.3, IAlu, by hand.
func TestSumsByHand(t *testing.T) {
	runAll(t, []row{
		{"83 C0 FB", "eax=5 f=-", "eax=0 f=CF+PF+AF+ZF"},
		{"00 E3", "bl=FF ah=2 f=-", "bl=1 f=CF+AF"},
		{"10 E3", "bl=FF ah=2 f=CF", "bl=2 f=CF+AF"},
		{"28 26", "2000:03 ah=5 f=-", "2000:FE f=CF+AF+SF"},
		{"2A 26", "2000:03 ah=5 f=-", "ah=2 f=-"},
		{"38 26", "2000:03 ah=5 f=-", "f=CF+AF+SF"},
		{"66 29 06", "2000:0100 ax=2 f=-", "2000:FFFF f=CF+PF+AF+SF"},
		{"85 C0", "eax=80000000 f=CF+OF+AF", "f=PF+SF"},
		{"F7 DB", "ebx=0 f=CF", "f=PF+ZF"},
		{"F6 D7", "bh=0F f=CF+ZF", "bh=F0"},
		{"40", "eax=FFFFFFFF f=CF", "eax=0 f=CF+PF+AF+ZF"},
		{"48", "eax=0 f=-", "eax=FFFFFFFF f=PF+AF+SF"},
		{"01 E4", "esp=1000 f=-", "esp=2000 f=PF"},
		{"31 C0", "eax=1234 f=CF+OF", "eax=0 f=PF+ZF"},
	})
}

// P17.3, IAlu: what is only asked may be asked where nothing may be written; all else may not.
func TestSumsWhereNothingMayBeWritten(t *testing.T) {
	runAll(t, []row{
		{"38 3E", "ds=28 2000:05 bh=5", "f=ZF+PF"},
		{"39 0E", "ds=28 2000:05000000 ecx=5", "f=ZF+PF"},
		{"3A 3E", "ds=28 2000:05 bh=5", "f=ZF+PF"},
		{"80 3E 05", "ds=28 2000:05", "f=ZF+PF"},
		{"83 3E 05", "ds=28 2000:05000000", "f=ZF+PF"},
		{"84 3E", "ds=28 2000:05 bh=2", "f=ZF+PF"},
		{"F6 06 02", "ds=28 2000:05", "f=ZF+PF"},
		{"F7 06 02000000", "ds=28 2000:05000000", "f=ZF+PF"},
		{"2E 38 3E", "2000:05 bh=5", "f=ZF+PF"},
		{"02 3E", "ds=28 2000:05 bh=5 f=-", "bh=A f=PF"},
		{"00 3E", "ds=28", "#GP(0)"},
		{"80 06 00", "ds=28", "#GP(0)"},
		{"83 0E 00", "ds=28", "#GP(0)"},
		{"F6 16", "ds=28", "#GP(0)"},
		{"F7 1E", "ds=28", "#GP(0)"},
		{"FE 06", "ds=28", "#GP(0)"},
		{"FF 0E", "ds=28", "#GP(0)"},
		{"2E 00 3E", "", "#GP(0)"},
		{"38 3E", "cs=40 2000:05 bh=5", "f=ZF+PF"},
		{"2E 38 3E", "cs=40", "#GP(0)"},
	})
}

// P17.3, IShift: each operation in each form, by counts below and above the size, and by none.
func TestShifts(t *testing.T) {
	type shiftForm struct {
		code string
		size int
		a    string
		by   string
	}
	for op := range 8 {
		extra := func(base int) string { return fmt.Sprintf("%02X", base+8*op) }
		for _, f := range []shiftForm{
			{"C0" + extra(0xC7), 1, "bh", "number"}, {"C0" + extra(0x06), 1, "m2000", "number"}, {"C1" + extra(0xC7), 4, "edi", "number"}, {"C1" + extra(0x06), 4, "m2000", "number"}, {"66C1" + extra(0xC7), 2, "di", "number"}, {"66C1" + extra(0x06), 2, "m2000", "number"},
			{"D0" + extra(0xC7), 1, "bh", "1"}, {"D0" + extra(0x06), 1, "m2000", "1"}, {"D1" + extra(0xC7), 4, "edi", "1"}, {"D1" + extra(0x06), 4, "m2000", "1"}, {"66D1" + extra(0xC7), 2, "di", "1"}, {"66D1" + extra(0x06), 2, "m2000", "1"},
			{"D2" + extra(0xC7), 1, "bh", "cl"}, {"D2" + extra(0xC5), 1, "ch", "cl"}, {"D2" + extra(0x06), 1, "m2000", "cl"}, {"D3" + extra(0xC7), 4, "edi", "cl"}, {"D3" + extra(0x06), 4, "m2000", "cl"}, {"66D3" + extra(0xC7), 2, "di", "cl"}, {"66D3" + extra(0x06), 2, "m2000", "cl"},
		} {
			for n, count := range []uint32{0, 1, 3, 7, 8, 9, 15, 17, 31, 32, 33, 0xFF} {
				a, flags := pairs[n%len(pairs)][0], starts[n%len(starts)]
				code, before := f.code, names(flags)+" "+at(f.a, f.size, a)
				switch f.by {
				case "number":
					code += little(1, count)
				case "1":
					count = 1
				case "cl":
					before += " " + at("cl", 1, count)
				}
				result, marks, err := shift.Do(op, f.size, a, count, flags)
				if err != api.OK {
					t.Fatal(err)
				}
				row{code, before, names(marks) + " " + at(f.a, f.size, result)}.run(t)
			}
		}
	}
}

// P17.3, IDouble: both ways in each form.
func TestDoubleShifts(t *testing.T) {
	for _, left := range []bool{true, false} {
		number, byCl := "0FA4", "0FA5"
		if !left {
			number, byCl = "0FAC", "0FAD"
		}
		for _, f := range []form{
			{number + "D3", 4, "ebx", "edx"}, {number + "3E", 4, "m2000", "edi"}, {"66" + number + "D3", 2, "bx", "dx"}, {"66" + number + "3E", 2, "m2000", "di"},
			{byCl + "D3", 4, "ebx", "edx"}, {byCl + "3E", 4, "m2000", "edi"}, {"66" + byCl + "D3", 2, "bx", "dx"}, {"66" + byCl + "3E", 2, "m2000", "di"},
		} {
			for n, count := range []uint32{0, 1, 4, 15, 16, 17, 31, 32, 0x84} {
				pair, flags := pairs[n%len(pairs)], starts[n%len(starts)]
				code, before, _ := f.rowOf(pair[0], pair[1], flags)
				if strings.Contains(code, number) {
					code += little(1, count)
				} else {
					before += " " + at("cl", 1, count)
				}
				result, marks, err := shift.Double(left, f.size, pair[0], pair[1], count, flags)
				if err != api.OK {
					t.Fatal(err)
				}
				row{code, before, names(marks) + " " + at(f.a, f.size, result)}.run(t)
			}
		}
	}
}

// P17.3, IShift and IDouble, by hand; also what may not be written is a fault where nothing would be changed.
func TestShiftsByHand(t *testing.T) {
	runAll(t, []row{
		{"C0 C7 01", "bh=81 f=-", "bh=3 f=CF+OF"},
		{"D0 E7", "bh=C0 f=-", "bh=80 f=CF+SF"},
		{"66 C1 FB 14", "bx=8000 f=-", "bx=FFFF f=CF+PF+SF"},
		{"D3 E3", "ebx=1 cl=20 f=ZF+OF", "ebx=1 f=ZF+OF"},
		{"D2 26", "2000:01 cl=1 f=-", "2000:02 f=-"},
		{"D2 E1", "cl=2 f=-", "cl=8 f=-"},
		{"66 0F A4 D3 04", "bx=1234 dx=ABCD f=-", "bx=234A f=CF"},
		{"66 0F AC D3 04", "bx=1234 dx=ABCD f=-", "bx=D123 f=SF+OF"},
		{"0F AD 16", "2000:78563412 edx=8 cl=4 f=-", "2000:67452381 f=CF+SF+OF"},
		{"C1 26 00", "ds=28", "#GP(0)"},
		{"D3 26", "ds=28 cl=0", "#GP(0)"},
		{"0F A4 16 00", "ds=28", "#GP(0)"},
		{"0F AD 16", "ds=28 cl=0", "#GP(0)"},
	})
}

// P17.3, IMul: the product's halves, and the flags, in each size and of memory too.
func TestProducts(t *testing.T) {
	for _, signed := range []bool{false, true} {
		extra := func(base int) string {
			if signed {
				base += 8
			}
			return fmt.Sprintf("%02X", base)
		}
		for _, f := range []struct {
			code         string
			size         int
			by           string
			other, above string
		}{
			{"F6" + extra(0xE3), 1, "bl", "al", "ah"}, {"F6" + extra(0xE7), 1, "bh", "al", "ah"}, {"F6" + extra(0x26), 1, "m2000", "al", "ah"},
			{"66F7" + extra(0xE3), 2, "bx", "ax", "dx"}, {"66F7" + extra(0x26), 2, "m2000", "ax", "dx"},
			{"F7" + extra(0xE3), 4, "ebx", "eax", "edx"}, {"F7" + extra(0x26), 4, "m2000", "eax", "edx"},
		} {
			for n, pair := range pairs {
				flags := starts[n%len(starts)]
				lo, hi, marks, err := muldiv.Mul(signed, f.size, pair[0], pair[1], flags)
				if err != api.OK {
					t.Fatal(err)
				}
				before := names(flags) + " " + at(f.other, f.size, pair[0]) + " " + at(f.by, f.size, pair[1])
				row{f.code, before, names(marks) + " " + at(f.other, f.size, lo) + " " + at(f.above, f.size, hi)}.run(t)
			}
		}
	}
	runAll(t, []row{
		{"F6 E4", "al=10 ah=10 f=-", "al=0 ah=1 f=CF+OF+PF+ZF"},
		{"F6 E8", "al=FF f=-", "al=1 ah=0 f=-"},
		{"F6 E0", "al=FF ah=7 f=-", "al=1 ah=FE f=CF+OF"},
		{"F7 E2", "eax=80000000 edx=6 f=-", "eax=0 edx=3 f=CF+OF+PF+ZF"},
		{"66 F7 EA", "ax=2 dx=FFFF f=CF", "ax=FFFE dx=FFFF f=SF"},
		{"F6 26", "ds=28 2000:03 al=2 f=-", "al=6 ah=0 f=PF"},
		{"F7 26", "ds=28 ds.limit=2002", "#GP(0)"},
	})
}

// P17.3, IImul: of two operands and of three; the lower half alone is kept.
func TestShortProducts(t *testing.T) {
	for n, pair := range pairs {
		flags := starts[n%len(starts)]
		for _, f := range []form{{"0FAFD3", 4, "edx", "ebx"}, {"0FAF16", 4, "edx", "m2000"}, {"660FAFD3", 2, "dx", "bx"}, {"660FAF16", 2, "dx", "m2000"}} {
			lo, _, marks, _ := muldiv.Mul(true, f.size, pair[0], pair[1], flags)
			code, before, _ := f.rowOf(pair[0], pair[1], flags)
			row{code, before, names(marks) + " " + at(f.a, f.size, lo)}.run(t)
		}
		for _, f := range []form{{"69D3", 4, "edx", "ebx"}, {"6916", 4, "edx", "m2000"}, {"6669D3", 2, "dx", "bx"}, {"666916", 2, "dx", "m2000"}, {"6BD3", 4, "edx", "ebx"}, {"6B16", 4, "edx", "m2000"}, {"666BD3", 2, "dx", "bx"}, {"666B16", 2, "dx", "m2000"}} {
			by, numberSize := pair[1], f.size
			if strings.Contains(f.code, "6B") {
				by, numberSize = uint32(int32(int8(by))), 1
			}
			lo, _, marks, _ := muldiv.Mul(true, f.size, pair[0], by, flags)
			before := names(flags) + " " + at(f.b, f.size, pair[0])
			row{f.code + little(numberSize, by), before, names(marks) + " " + at(f.a, f.size, lo)}.run(t)
		}
	}
	runAll(t, []row{
		{"0F AF D3", "edx=5 ebx=FFFFFFFE f=-", "edx=FFFFFFF6 f=SF+PF"},
		{"0F AF DB", "ebx=10000 f=-", "ebx=0 f=CF+OF+ZF+PF"},
		{"6B D3 FE", "ebx=5 f=CF", "edx=FFFFFFF6 f=SF+PF"},
		{"6B D3 00", "edx=7 ebx=5 f=CF", "edx=0 f=ZF+PF"},
		{"66 69 D3 0080", "bx=2 f=-", "dx=0 f=CF+OF+ZF+PF"},
		{"0F AF 16", "ds=28 edx=2 2000:03000000 f=-", "edx=6 f=PF"},
	})
}

// P17.3, IDiv: quotients and what is left, those that there are not; flags stay.
func TestQuotients(t *testing.T) {
	for _, signed := range []bool{false, true} {
		extra := func(base int) string {
			if signed {
				base += 8
			}
			return fmt.Sprintf("%02X", base)
		}
		for _, f := range []struct {
			code   string
			size   int
			by     string
			lo, hi string
		}{
			{"F6" + extra(0xF3), 1, "bl", "al", "ah"}, {"F6" + extra(0xF7), 1, "bh", "al", "ah"}, {"F6" + extra(0x36), 1, "m2000", "al", "ah"},
			{"66F7" + extra(0xF3), 2, "bx", "ax", "dx"}, {"66F7" + extra(0x36), 2, "m2000", "ax", "dx"},
			{"F7" + extra(0xF3), 4, "ebx", "eax", "edx"}, {"F7" + extra(0x36), 4, "m2000", "eax", "edx"},
		} {
			for n, c := range [][3]uint32{
				{7, 0, 2}, {0xFFFFFFF9, 0xFFFFFFFF, 2}, {7, 0, 0xFFFFFFFE}, {5, 2, 3}, {5, 3, 3}, {5, 0, 0}, {0, 0, 0}, {0x7F7F7F7F, 0x11, 0x23232323},
				{0x80000000, 0xFFFFFFFF, 0xFFFFFFFF}, {0x80, 0, 1}, {0x80, 0xFF, 1}, {0x8000, 0, 1}, {0x80000000, 0, 1}, {0xFFFFFFFF, 0, 1}, {0xFFFFFFFF, 0xFFFFFFFE, 0xFFFFFFFF},
			} {
				q, left, ok, err := muldiv.Div(signed, f.size, c[0], c[1], c[2])
				if err != api.OK {
					t.Fatal(err)
				}
				before := names(starts[n%len(starts)]) + " " + at(f.lo, f.size, c[0]) + " " + at(f.hi, f.size, c[1]) + " " + at(f.by, f.size, c[2])
				after := at(f.lo, f.size, q) + " " + at(f.hi, f.size, left)
				if !ok {
					after = "#DE"
				}
				row{f.code, before, after}.run(t)
			}
		}
	}
	runAll(t, []row{
		{"F6 F3", "bl=0", "#DE"},
		{"F6 F3", "al=7 ah=0 bl=2 f=CF+ZF", "al=3 ah=1"},
		{"F6 FB", "al=F9 ah=FF bl=2 f=OF", "al=FD ah=FF"},
		{"F6 F3", "al=0 ah=2 bl=2", "#DE"},
		{"66 F7 F3", "ax=0 dx=1 bx=2 f=-", "ax=8000 dx=0"},
		{"66 F7 FB", "ax=0 dx=1 bx=2", "#DE"},
		{"F7 F3", "eax=1 edx=1 ebx=10 f=SF", "eax=10000000 edx=1"},
		{"F7 36", "eax=9 edx=0 ds=28 2000:04000000 f=-", "eax=2 edx=1"},
		{"F7 36", "ds.limit=2002", "#GP(0)"},
	})
}

// P17.3, IAdjust: each kind; of AH, too, and by 0.
func TestAdjustments(t *testing.T) {
	for op, code := range []string{"27", "2F", "37", "3F"} {
		for n, ax := range []uint32{0x0009, 0x000A, 0x019A, 0xFF99, 0x00FA, 0x0005, 0x7F80} {
			for _, flags := range append(starts, af) {
				x, y, marks, ok, err := muldiv.Adjust(op, ax%256, ax/256, 0, flags)
				if !ok || err != api.OK {
					t.Fatal(n, ok, err)
				}
				row{code, names(flags) + " " + at("ax", 2, ax), names(marks) + " " + at("ax", 2, y*256+x)}.run(t)
			}
		}
	}
	runAll(t, []row{
		{"27", "ax=519A f=-", "ax=5100 f=CF+AF+ZF+PF"},
		{"37", "ax=520A f=-", "ax=5300 f=CF+AF+ZF+PF"},
		{"3F", "ax=5200 f=AF", "ax=510A f=CF+AF+PF"},
		{"D4 0A", "ax=5223 f=CF+AF+OF", "ax=305 f=PF"},
		{"D4 10", "ax=52A7 f=-", "ax=A07 f=-"},
		{"D4 00", "ax=5223", "#DE"},
		{"D5 0A", "ax=305 f=CF+AF", "ax=23 f=-"},
		{"D5 00", "ax=305 f=-", "ax=5 f=PF"},
		{"D5 FF", "ax=2FE f=-", "ax=FC f=SF+PF"},
	})
}
