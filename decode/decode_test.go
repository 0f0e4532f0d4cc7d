package decode

import (
	"bytes"
	"encoding/hex"
	"slices"
	"strings"
	"testing"

	"drawloom/api"
)

// numbers have the ends of one, two and four bytes, with and without their signs, in their lowest bytes.
var numbers = []uint32{0, 1, 0x7F, 0x80, 0xFF, 0x100, 0x7FFF, 0x8000, 0xFFFF, 0x12345678, 0x7FFFFFFF, 0x80000000, 0xFFFFFF80, 0xFFFFFFFE, 0xFFFFFFFF, 0x89ABCDEF}

var prefixBytes = []byte{0x26, 0x2E, 0x36, 0x3E, 0x64, 0x65, 0x66, 0xF2, 0xF3}

func unhex(t *testing.T, s string) []byte {
	t.Helper()
	b, err := hex.DecodeString(strings.ReplaceAll(s, " ", ""))
	if err != nil {
		t.Fatal(err)
	}
	return b
}

func reads(t *testing.T, b []byte, want api.Inst) {
	t.Helper()
	if x, e := Decode(b); x != want || e != api.OK {
		t.Fatalf("% X:\n%+v, %v, want\n%+v", b, x, e, want)
	}
}

func refuses(t *testing.T, b []byte, want api.Errno) {
	t.Helper()
	if x, e := Decode(b); x != (api.Inst{}) || e != want {
		t.Fatalf("% X: %+v, %v, want %v", b, x, e, want)
	}
}

// everyModRM is every choice of ModRM, and of SIB where there is one.
func everyModRM(yield func(choice) bool) {
	for b := range 256 {
		c := choice{seg: -1, v: 4, mod: b / 64, n: b / 8 % 8, rm: b % 8}
		if c.mod == 3 || c.rm != 4 {
			if !yield(c) {
				return
			}
			continue
		}
		for s := range 256 {
			c.scale, c.index, c.base = s/64, s/8%8, s%8
			if !yield(c) {
				return
			}
		}
	}
}

// someModRM is one choice of each form of memory, and a register.
func someModRM(x line) []choice {
	var out []choice
	for _, n := range []int{0, 1, 2, 3, 4, 5, 6, 7} {
		for _, c := range []choice{{mod: 3, rm: 5}, {mod: 0, rm: 1}, {mod: 0, rm: 5}, {mod: 1, rm: 5}, {mod: 2, rm: 7}, {mod: 0, rm: 4, base: 5, index: 3, scale: 1}, {mod: 0, rm: 4, base: 4, index: 4, scale: 2}, {mod: 1, rm: 4, base: 5, index: 4}, {mod: 2, rm: 4, base: 0, index: 5, scale: 3}} {
			c.n, c.seg, c.v = n, -1, 4
			if x.takes(c.mod, n) {
				out = append(out, c)
			}
		}
		if !x.hasModRM() || x.n < 0 && n == 1 {
			break
		}
	}
	return out
}

// P6.1, P6.2: each line with every n, r and c, both sizes v and the ends of its numbers.
func TestLines(t *testing.T) {
	for _, x := range table() {
		for _, c := range someModRM(x) {
			for _, c.v = range []int{2, 4} {
				for _, c.number = range numbers {
					want, b := x.all(c)
					reads(t, b, want)
				}
			}
		}
	}
}

// P6.1, P6.2: each line that has a byte ModRM, with each ModRM and each SIB.
func TestModRM(t *testing.T) {
	for _, x := range table() {
		if !x.hasModRM() {
			continue
		}
		i := 0
		for c := range everyModRM {
			if !x.takes(c.mod, c.n) {
				continue
			}
			i++
			c.v, c.number = 2+2*(i%2), numbers[i%len(numbers)]
			if i%5 == 0 {
				c.seg = i % 6
			}
			want, b := x.all(c)
			reads(t, b, want)
		}
	}
}

// P6.2: instructions worked out by hand.
func TestByHand(t *testing.T) {
	reg := func(n, size int) api.Operand { return api.Operand{Kind: api.OReg, Reg: n, Size: size} }
	imm := func(n uint32) api.Operand { return api.Operand{Kind: api.OImm, Imm: n} }
	rel := func(n uint32) api.Operand { return api.Operand{Kind: api.ORel, Imm: n} }
	seg := func(n int) api.Operand { return api.Operand{Kind: api.OSeg, Reg: n} }
	mem := func(size, seg, base, index, scale int, disp uint32) api.Operand {
		return api.Operand{Kind: api.OMem, Size: size, Seg: seg, Base: base, Index: index, Scale: scale, Disp: disp}
	}
	for _, c := range []struct {
		b string
		x api.Inst
	}{
		{"01 D8", api.Inst{Op: api.IAlu, Sub: api.Add, Size: 4, A: reg(api.Eax, 4), B: reg(api.Ebx, 4)}},
		{"66 8B 44 8D FC", api.Inst{Op: api.IMov, Size: 2, A: reg(0, 2), B: mem(2, api.Ss, api.Ebp, api.Ecx, 4, 0xFFFFFFFC)}},
		{"2E A1 10 00 00 00", api.Inst{Op: api.IMov, Size: 4, A: reg(0, 4), B: mem(4, api.Cs, -1, -1, 1, 16)}},
		{"3A 26", api.Inst{Op: api.IAlu, Sub: api.Cmp, Size: 1, A: reg(4, 1), B: mem(1, api.Ds, api.Esi, -1, 1, 0)}},
		{"66 15 FE FF", api.Inst{Op: api.IAlu, Sub: api.Adc, Size: 2, A: reg(0, 2), B: imm(0xFFFE)}},
		{"0E", api.Inst{Op: api.IPush, Size: 4, A: seg(api.Cs)}},
		{"66 1F", api.Inst{Op: api.IPop, Size: 2, A: seg(api.Ds)}},
		{"37", api.Inst{Op: api.IAdjust, Sub: api.Aaa, Size: 1}},
		{"66 D4 0A", api.Inst{Op: api.IAdjust, Sub: api.Aam, Size: 1, A: imm(10)}},
		{"4F", api.Inst{Op: api.IAlu, Sub: api.Dec, Size: 4, A: reg(api.Edi, 4)}},
		{"66 6A 80", api.Inst{Op: api.IPush, Size: 2, A: imm(0xFF80)}},
		{"6A 80", api.Inst{Op: api.IPush, Size: 4, A: imm(0xFFFFFF80)}},
		{"66 9E", api.Inst{Op: api.ISahf, Size: 1}},
		{"69 48 7F 80 00 00 00", api.Inst{Op: api.IImul, Size: 4, A: reg(1, 4), B: mem(4, api.Ds, 0, -1, 1, 0x7F), C: imm(0x80)}},
		{"66 6B D9 FF", api.Inst{Op: api.IImul, Size: 2, A: reg(3, 2), B: reg(1, 2), C: imm(0xFFFF)}},
		{"7F 80", api.Inst{Op: api.IJcc, Sub: 15, Size: 4, A: rel(0xFFFFFF80)}},
		{"66 0F 85 00 80", api.Inst{Op: api.IJcc, Sub: 5, Size: 2, A: rel(0xFFFF8000)}},
		{"80 0D 01 02 03 04 FF", api.Inst{Op: api.IAlu, Sub: api.Or, Size: 1, A: mem(1, api.Ds, -1, -1, 1, 0x04030201), B: imm(0xFF)}},
		{"66 81 3C 24 34 12", api.Inst{Op: api.IAlu, Sub: api.Cmp, Size: 2, A: mem(2, api.Ss, api.Esp, -1, 1, 0), B: imm(0x1234)}},
		{"F7 C8 01 00 00 00", api.Inst{Op: api.IAlu, Sub: api.Test, Size: 4, A: reg(0, 4), B: imm(1)}},
		{"66 90", api.Inst{Op: api.INop, Size: 4}},
		{"66 91", api.Inst{Op: api.IXchg, Size: 2, A: reg(1, 2), B: reg(0, 2)}},
		{"66 A3 FF FF FF FF", api.Inst{Op: api.IMov, Size: 2, A: mem(2, api.Ds, -1, -1, 1, 0xFFFFFFFF), B: reg(0, 2)}},
		{"B7 80", api.Inst{Op: api.IMov, Size: 1, A: reg(7, 1), B: imm(0x80)}},
		{"8C DB", api.Inst{Op: api.IMov, Size: 4, A: reg(3, 4), B: seg(api.Ds)}},
		{"66 8C DB", api.Inst{Op: api.IMov, Size: 2, A: reg(3, 2), B: seg(api.Ds)}},
		{"8C 2B", api.Inst{Op: api.IMov, Size: 2, A: mem(2, api.Ds, 3, -1, 1, 0), B: seg(api.Gs)}},
		{"8E D0", api.Inst{Op: api.IMov, Size: 2, A: seg(api.Ss), B: reg(0, 2)}},
		{"66 8D 04 25 01 00 00 00", api.Inst{Op: api.ILea, Size: 2, A: reg(0, 2), B: mem(2, api.Ds, -1, -1, 1, 1)}},
		{"F2 26 66 A7", api.Inst{Op: api.IString, Sub: 1, Size: 2, A: mem(2, api.Es, -1, -1, 1, 0), Rep: api.Repne}},
		{"AF", api.Inst{Op: api.IString, Sub: 4, Size: 4, A: mem(4, api.Ds, -1, -1, 1, 0)}},
		{"66 C1 38 FF", api.Inst{Op: api.IShift, Sub: api.Sar, Size: 2, A: mem(2, api.Ds, 0, -1, 1, 0), B: imm(0xFF)}},
		{"D1 F0", api.Inst{Op: api.IShift, Sub: api.Sal, Size: 4, A: reg(0, 4), B: imm(1)}},
		{"D2 64 65 80", api.Inst{Op: api.IShift, Sub: api.Shl, Size: 1, A: mem(1, api.Ss, api.Ebp, -1, 1, 0xFFFFFF80), B: reg(api.Ecx, 1)}},
		{"66 C2 FE FF", api.Inst{Op: api.IRet, Size: 2, A: imm(0xFFFE)}},
		{"C3", api.Inst{Op: api.IRet, Size: 4, A: imm(0)}},
		{"66 CC", api.Inst{Op: api.IInt, Sub: 1, Size: 4, A: imm(3)}},
		{"66 CE", api.Inst{Op: api.IInt, Sub: 2, Size: 4, A: imm(4)}},
		{"E3 7F", api.Inst{Op: api.ILoop, Sub: 3, Size: 4, A: rel(0x7F)}},
		{"66 E7 80", api.Inst{Op: api.IOut, Size: 2, A: imm(0x80), B: reg(0, 2)}},
		{"EC", api.Inst{Op: api.IIn, Size: 1, A: reg(0, 1), B: reg(api.Edx, 2)}},
		{"66 E8 FF FF", api.Inst{Op: api.ICall, Size: 2, A: rel(0xFFFFFFFF)}},
		{"EA 01 02 03 84 05 86", api.Inst{Op: api.IFar, Size: 4, A: api.Operand{Kind: api.OFar, Imm: 0x84030201, Disp: 0x8605}}},
		{"66 EA 01 82 05 86", api.Inst{Op: api.IFar, Size: 2, A: api.Operand{Kind: api.OFar, Imm: 0x8201, Disp: 0x8605}}},
		{"66 F5", api.Inst{Op: api.IFlag, Sub: 2, Size: 4}},
		{"FB", api.Inst{Op: api.IFlag, Sub: 6, Size: 4}},
		{"F6 D1", api.Inst{Op: api.IAlu, Sub: api.Not, Size: 1, A: reg(1, 1)}},
		{"66 F7 F9", api.Inst{Op: api.IDiv, Sub: 1, Size: 2, A: reg(1, 2)}},
		{"FF 64 24 04", api.Inst{Op: api.IJmp, Size: 4, A: mem(4, api.Ss, api.Esp, -1, 1, 4)}},
		{"66 0F 00 D9", api.Inst{Op: api.ILtr, Size: 2, A: reg(1, 2)}},
		{"66 0F 01 15 04 03 02 01", api.Inst{Op: api.ILgdt, Size: 4, A: mem(4, api.Ds, -1, -1, 1, 0x01020304)}},
		{"0F 01 BC 85 01 00 00 80", api.Inst{Op: api.IInvlpg, Size: 4, A: mem(4, api.Ss, api.Ebp, 0, 4, 0x80000001)}},
		{"66 0F 20 1C", api.Inst{Op: api.IMovcr, Size: 4, A: reg(4, 4), B: api.Operand{Kind: api.OCr, Reg: 3}}},
		{"0F 22 D5", api.Inst{Op: api.IMovcr, Size: 4, A: api.Operand{Kind: api.OCr, Reg: 2}, B: reg(5, 4)}},
		{"66 0F 4E C7", api.Inst{Op: api.ICmov, Sub: 14, Size: 2, A: reg(0, 2), B: reg(7, 2)}},
		{"0F 95 F8", api.Inst{Op: api.ISet, Sub: 5, Size: 1, A: reg(0, 1)}},
		{"0F A9", api.Inst{Op: api.IPop, Size: 4, A: seg(api.Gs)}},
		{"0F BA F8 1F", api.Inst{Op: api.IBit, Sub: api.Btc, Size: 4, A: reg(0, 4), B: imm(31)}},
		{"0F AC D0 04", api.Inst{Op: api.IDouble, Sub: 1, Size: 4, A: reg(0, 4), B: reg(2, 4), C: imm(4)}},
		{"66 0F A5 D0", api.Inst{Op: api.IDouble, Size: 2, A: reg(0, 2), B: reg(2, 2), C: reg(1, 1)}},
		{"66 0F BF 0A", api.Inst{Op: api.IMovx, Sub: 1, Size: 2, A: reg(1, 2), B: mem(2, api.Ds, 2, -1, 1, 0)}},
		{"0F B6 04 ED 00 00 00 80", api.Inst{Op: api.IMovx, Size: 4, A: reg(0, 4), B: mem(1, api.Ds, -1, api.Ebp, 8, 0x80000000)}},
		{"66 0F CF", api.Inst{Op: api.IBswap, Size: 4, A: reg(7, 4)}},
	} {
		b := unhex(t, c.b)
		c.x.Len = len(b)
		reads(t, b, c.x)
	}
}

// opcodes are all of one byte that is no prefix, and all of 0F and one.
func opcodes() [][]byte {
	var out [][]byte
	for b := range 256 {
		if !slices.Contains(prefixBytes, byte(b)) && b != 0x0F {
			out = append(out, []byte{byte(b)})
		}
		out = append(out, []byte{0x0F, byte(b)})
	}
	return out
}

// P6.1, P6.2: opcodes that are in no line are refused as soon as they are read, and so is a byte ModRM that none takes; all others are read.
func TestNone(t *testing.T) {
	lines := map[string][]line{}
	for _, x := range table() {
		lines[string(x.code)] = append(lines[string(x.code)], x)
	}
	behind := bytes.Repeat([]byte{0x24}, 20)
	for _, code := range opcodes() {
		some := lines[string(code)]
		for _, ahead := range [][]byte{nil, {0x66}, {0xF3, 0x2E}} {
			b := slices.Concat(ahead, code)
			switch {
			case some == nil:
				refuses(t, b, api.ErrDecodeUd)
				refuses(t, slices.Concat(b, behind), api.ErrDecodeUd)
				continue
			case !some[0].hasModRM():
				continue
			}
			refuses(t, b, api.ErrDecodeMore)
			for m := range 256 {
				taken := slices.ContainsFunc(some, func(x line) bool { return x.takes(m/64, m/8%8) })
				at := append(slices.Clone(b), byte(m))
				if !taken {
					refuses(t, at, api.ErrDecodeUd)
					refuses(t, slices.Concat(at, behind), api.ErrDecodeUd)
				} else if _, e := Decode(slices.Concat(at, behind)); e != api.OK {
					t.Fatalf("% X: %v", at, e)
				}
			}
		}
	}
}

// P6.2: what the document names as none, by hand; what is refused by ModRM is so ahead of bytes that lack.
func TestNoneByHand(t *testing.T) {
	for _, s := range []string{
		"67", "67 90", "F0", "F0 01 D8", "66 67 90", "82", "82 C0 01", "62", "63", "6C", "6F", "9A", "9B", "C4", "C5", "C8", "CA", "CB", "D6", "D7", "D8", "DF", "F1",
		"0F 0B", "0F 0F", "0F 66", "0F 67", "0F F3", "0F 05", "0F A2", "0F AE", "0F C7", "0F D0", "0F FF", "0F 21", "0F 23",
		"8D C0", "8D FF", "0F 01 D0", "0F 01 FF", "0F 01 05", "0F 01 20", "0F 01 34", "0F 00 04", "0F 00 C0",
		"8C 34", "8C 3D", "8C F0", "8C F8", "8E 0C", "8E C8", "8E 34", "8E FD",
		"0F 20 C8", "0F 22 C8", "0F 20 E0", "0F 22 E4", "0F 20 28", "0F 22 F0", "0F 20 F8",
		"8F 0D", "8F C8", "C6 0C", "C6 C8", "C7 3D", "C7 F8", "FE 14", "FE D0", "FE F8", "FF 1D", "FF D8", "FF 2C", "FF E8", "FF 3D", "FF F8",
		"0F BA 05", "0F BA C0", "0F BA D8", "0F BA 1C",
	} {
		refuses(t, unhex(t, s), api.ErrDecodeUd)
	}
}

// P6.1, P6.3: fewer bytes are ErrDecodeMore, down to none; more of them change nothing.
func TestFewerAndMore(t *testing.T) {
	refuses(t, nil, api.ErrDecodeMore)
	refuses(t, []byte{}, api.ErrDecodeMore)
	for _, p := range prefixBytes {
		refuses(t, []byte{p}, api.ErrDecodeMore)
	}
	for i, x := range table() {
		for j, c := range someModRM(x) {
			c.v, c.number = 2+2*((i+j)%2), numbers[(i+j)%len(numbers)]
			c.seg, c.rep = (i+j)%7-1, (i+j)%3
			want, b := x.all(c)
			for k := range b {
				refuses(t, b[:k:k], api.ErrDecodeMore)
				refuses(t, b[:k], api.ErrDecodeMore) // the rest is spare room
			}
			for _, more := range [][]byte{{0}, {0x66}, {0xFF}, {0x0F}, bytes.Repeat([]byte{0xF0}, 30)} {
				reads(t, slices.Concat(b, more), want)
			}
		}
	}
}

// P6.1, P6.2: each prefix ahead of each line: segments, of which the last one counts; 66, once or often; F2 and F3, the last one, of strings alone.
func TestPrefixes(t *testing.T) {
	for _, c := range []struct {
		b           []byte
		seg, v, rep int
	}{
		{nil, -1, 4, 0},
		{[]byte{0x26}, 0, 4, 0},
		{[]byte{0x2E}, 1, 4, 0},
		{[]byte{0x36}, 2, 4, 0},
		{[]byte{0x3E}, 3, 4, 0},
		{[]byte{0x64}, 4, 4, 0},
		{[]byte{0x65}, 5, 4, 0},
		{[]byte{0x66}, -1, 2, 0},
		{[]byte{0xF2}, -1, 4, 2},
		{[]byte{0xF3}, -1, 4, 1},
		{[]byte{0x26, 0x65}, 5, 4, 0},
		{[]byte{0x65, 0x26}, 0, 4, 0},
		{[]byte{0x36, 0x3E}, 3, 4, 0},
		{[]byte{0x3E, 0x36, 0x36}, 2, 4, 0},
		{[]byte{0x64, 0x2E, 0x64}, 4, 4, 0},
		{[]byte{0x66, 0x66}, -1, 2, 0},
		{[]byte{0x66, 0x66, 0x66}, -1, 2, 0},
		{[]byte{0xF2, 0xF3}, -1, 4, 1},
		{[]byte{0xF3, 0xF2}, -1, 4, 2},
		{[]byte{0xF3, 0xF2, 0xF3}, -1, 4, 1},
		{[]byte{0x66, 0x2E, 0xF3}, 1, 2, 1},
		{[]byte{0xF2, 0x65, 0x66}, 5, 2, 2},
		{[]byte{0x65, 0xF2, 0x66, 0x26}, 0, 2, 2},
	} {
		for _, x := range table() {
			for _, m := range someModRM(x) {
				m.seg, m.v, m.rep, m.number = c.seg, c.v, c.rep, 0x89ABCDEF
				want, b := x.write(m)
				if len(c.b)+len(b) > api.MaxInst {
					continue
				}
				want.Len = len(c.b) + len(b)
				reads(t, slices.Concat(c.b, b), want)
			}
		}
	}
}

// P6.1: fifteen bytes are an instruction, and a byte behind the fifteenth is too much, be it there or not; one that lacks ahead of it is only lacking.
func TestLong(t *testing.T) {
	for _, x := range table() {
		for _, c := range someModRM(x) {
			c.seg, c.v, c.number = 4, 2, 0x89ABCDEF
			want, b := x.write(c)
			fill := bytes.Repeat([]byte{0x66}, 14)
			for behind := 1; behind <= len(b)-1; behind++ {
				long := slices.Concat(fill[:15-len(b)+behind-1], []byte{0x64}, b) // so many bytes are behind the 15th
				refuses(t, long, api.ErrDecodeLong)
				refuses(t, long[:15:15], api.ErrDecodeLong)
				refuses(t, long[:14], api.ErrDecodeMore)
				refuses(t, slices.Concat(long, fill), api.ErrDecodeLong)
			}
			just := slices.Concat(fill[:15-len(b)-1], []byte{0x64}, b)
			want.Len = 15
			reads(t, just, want)
			reads(t, slices.Concat(just, fill), want)
			refuses(t, just[:14], api.ErrDecodeMore)
		}
	}
}

// P6.1: prefixes alone, and what is refused, about the fifteenth byte.
func TestLongByPrefixes(t *testing.T) {
	for _, p := range prefixBytes {
		for n := range 40 {
			want := api.ErrDecodeMore
			if n >= 15 {
				want = api.ErrDecodeLong
			}
			refuses(t, bytes.Repeat([]byte{p}, n), want)
		}
		ahead := func(n int, b ...byte) []byte { return append(bytes.Repeat([]byte{p}, n), b...) }
		for _, c := range []struct {
			b []byte
			e api.Errno
		}{
			{ahead(14, 0x67), api.ErrDecodeUd},
			{ahead(15, 0x67), api.ErrDecodeLong},
			{ahead(15, 0x90), api.ErrDecodeLong},
			{ahead(13, 0x0F, 0x0B), api.ErrDecodeUd},
			{ahead(13, 0x0F), api.ErrDecodeMore},
			{ahead(14, 0x0F), api.ErrDecodeLong},
			{ahead(14, 0x0F, 0x0B), api.ErrDecodeLong},
			{ahead(13, 0xC6, 0x0D), api.ErrDecodeUd},
			{ahead(13, 0xC6), api.ErrDecodeMore},
			{ahead(14, 0xC6), api.ErrDecodeLong},
			{ahead(14, 0xC6, 0x0D), api.ErrDecodeLong},
			{ahead(12, 0x8D, 0x04), api.ErrDecodeMore},
			{ahead(13, 0x8D, 0x04), api.ErrDecodeLong},
			{ahead(13, 0x8D, 0xC4), api.ErrDecodeUd},
			{ahead(12, 0x0F, 0x20, 0xC8), api.ErrDecodeUd},
			{ahead(13, 0x0F, 0x20, 0xC8), api.ErrDecodeLong},
		} {
			refuses(t, c.b, c.e)
		}
	}
}

// dice is a row of numbers that is the same in each run.
type dice uint64

func (d *dice) roll(n int) int {
	*d = *d*6364136223846793005 + 1442695040888963407
	return int(uint64(*d) >> 33 % uint64(n))
}

// P6.1, P6.3: of any bytes what is answered is the same once as many of them are there as it takes, and ErrDecodeMore ahead of that.
func TestAnyBytes(t *testing.T) {
	d := dice(6)
	for range 60000 {
		b := make([]byte, d.roll(24))
		for i := range b {
			b[i] = byte(d.roll(256))
			if d.roll(3) == 0 {
				b[i] = []byte{0x66, 0x0F, 0xF3, 0x2E, 0x64, 0x81, 0x05, 0x84, 0x24, 0xC7}[d.roll(10)]
			}
		}
		x, e := Decode(b)
		if e == api.OK && (x.Len < 1 || x.Len > min(15, len(b))) {
			t.Fatalf("% X: %+v", b, x)
		}
		if e != api.OK && x != (api.Inst{}) || e != api.OK && e != api.ErrDecodeUd && e != api.ErrDecodeMore && e != api.ErrDecodeLong {
			t.Fatalf("% X: %+v, %v", b, x, e)
		}
		known := false
		for k := range len(b) + 1 {
			y, f := Decode(b[:k])
			if f == api.ErrDecodeMore && !known {
				continue
			}
			known = true
			if y != x || f != e || f == api.OK && k < x.Len || f == api.ErrDecodeLong && k < 15 {
				t.Fatalf("% X, %d of them: %+v, %v, all of them %+v, %v", b, k, y, f, x, e)
			}
			if f == api.OK && k > x.Len {
				if z, g := Decode(b[:x.Len]); z != x || g != api.OK {
					t.Fatalf("% X: %+v, %v", b[:x.Len], z, g)
				}
			}
		}
	}
}

// R4, R5: what is handed in is neither changed nor kept, its spare room included.
func TestNotKept(t *testing.T) {
	room := unhex(t, "66 8B 44 8D FC 90 90 90")
	before := slices.Clone(room)
	first, e := Decode(room[:5])
	if e != api.OK || !bytes.Equal(room, before) {
		t.Fatal(first, e, room)
	}
	kept := first
	for i := range room {
		room[i] = 0x40
	}
	other, e := Decode(room)
	if first != kept || e != api.OK || other.Op != api.IAlu || other.Len != 1 {
		t.Fatal(first, other, e)
	}
	if again, _ := Decode(before); again != kept {
		t.Fatal(again)
	}
}
