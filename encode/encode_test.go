package encode

import (
	"bytes"
	"encoding/hex"
	"fmt"
	"math"
	"slices"
	"strings"
	"sync"
	"testing"

	"drawloom/api"
	"drawloom/decode"
)

// numbers are about the ends of one byte with its sign, of two and of four bytes, and those that the table names.
var numbers = []uint32{
	0, 1, 2, 3, 4, 0x7E, 0x7F, 0x80, 0x81, 0xFE, 0xFF, 0x100, 0x7FFF, 0x8000, 0xFF7F, 0xFF80, 0xFFFF, 0x10000, 0x12345678,
	0x7FFFFFFF, 0x80000000, 0xFFFF7FFF, 0xFFFF8000, 0xFFFFFF7F, 0xFFFFFF80, 0xFFFFFFFE, 0xFFFFFFFF,
}

// wrongs are numbers of which most are none, for any field.
var wrongs = []int{math.MinInt, -1 << 32, -8, -2, -1, 0, 1, 2, 3, 4, 5, 6, 7, 8, 9, 12, 13, 15, 16, 47, 48, 255, 256, 256 + 4, 1 << 32, 1<<32 + 4, 1<<40 + 1, math.MaxInt}

func unhex(t *testing.T, s string) []byte {
	t.Helper()
	b, err := hex.DecodeString(strings.ReplaceAll(s, " ", ""))
	if err != nil {
		t.Fatal(err)
	}
	return b
}

// writes is what is written for an instruction, which must be read as it, and be of so many bytes.
func writes(t *testing.T, x api.Inst, length int) []byte {
	t.Helper()
	b, e := Encode(x)
	if e != api.OK || len(b) != length {
		t.Fatalf("%+v:\n% X, %v, want %d bytes", x, b, e, length)
	}
	x.Len = len(b)
	if y, e := decode.Decode(b); e != api.OK || y != x {
		t.Fatalf("%+v: % X are read as\n%+v, %v", x, b, y, e)
	}
	return b
}

func refuses(t *testing.T, x api.Inst) {
	t.Helper()
	if b, e := Encode(x); e != api.ErrEncode || len(b) != 0 {
		t.Fatalf("%+v:\n% X, %v, want ErrEncode", x, b, e)
	}
}

// right holds what is answered against the table, and tells whether there are bytes.
func right(t *testing.T, all []row, x api.Inst) bool {
	t.Helper()
	n := fewest(all, x)
	if n == 0 {
		refuses(t, x)
		return false
	}
	writes(t, x, n)
	return true
}

// P7.1: the chapter's examples.
func TestExamples(t *testing.T) {
	add := api.Inst{Op: api.IAlu, Sub: api.Add, Size: 4, A: reg(0, 4), B: reg(3, 4)}
	if b := writes(t, add, 2); !bytes.Equal(b, []byte{0x01, 0xD8}) && !bytes.Equal(b, []byte{0x03, 0xC3}) {
		t.Errorf("% X", b)
	}
	five := api.Inst{Op: api.IAlu, Sub: api.Add, Size: 4, A: reg(1, 4), B: imm(5)}
	if b := writes(t, five, 3); !bytes.Equal(b, []byte{0x83, 0xC1, 5}) {
		t.Errorf("% X", b)
	}
	load := api.Inst{Op: api.IMov, Size: 4, A: reg(0, 4), B: mem(4, api.Ds, -1, -1, 1, 16)}
	if b := writes(t, load, 5); !bytes.Equal(b, []byte{0xA1, 16, 0, 0, 0}) {
		t.Errorf("% X", b)
	}
	refuses(t, api.Inst{Op: api.IAlu, Sub: api.Add, Size: 4, A: reg(0, 4)})
	refuses(t, api.Inst{Op: api.IRet, Size: 3})
	refuses(t, api.Inst{Op: api.IRet, Size: 3, A: imm(0)})
	refuses(t, api.Inst{})
}

// P7.1: by hand, of each kind: just as few bytes as these are written.
func TestByHand(t *testing.T) {
	for _, c := range []struct {
		b string
		x api.Inst
	}{
		{"04 80", api.Inst{Op: api.IAlu, Sub: api.Add, Size: 1, A: reg(0, 1), B: imm(0x80)}},
		{"80 C9 80", api.Inst{Op: api.IAlu, Sub: api.Or, Size: 1, A: reg(1, 1), B: imm(0x80)}},
		{"83 D0 7F", api.Inst{Op: api.IAlu, Sub: api.Adc, Size: 4, A: reg(0, 4), B: imm(0x7F)}},
		{"15 80 00 00 00", api.Inst{Op: api.IAlu, Sub: api.Adc, Size: 4, A: reg(0, 4), B: imm(0x80)}},
		{"83 D0 80", api.Inst{Op: api.IAlu, Sub: api.Adc, Size: 4, A: reg(0, 4), B: imm(0xFFFFFF80)}},
		{"15 7F FF FF FF", api.Inst{Op: api.IAlu, Sub: api.Adc, Size: 4, A: reg(0, 4), B: imm(0xFFFFFF7F)}},
		{"81 D1 80 FF 00 00", api.Inst{Op: api.IAlu, Sub: api.Adc, Size: 4, A: reg(1, 4), B: imm(0xFF80)}},
		{"66 83 D1 80", api.Inst{Op: api.IAlu, Sub: api.Adc, Size: 2, A: reg(1, 2), B: imm(0xFF80)}},
		{"66 81 D1 7F FF", api.Inst{Op: api.IAlu, Sub: api.Adc, Size: 2, A: reg(1, 2), B: imm(0xFF7F)}},
		{"83 3C 24 00", api.Inst{Op: api.IAlu, Sub: api.Cmp, Size: 4, A: mem(4, api.Ss, 4, -1, 1, 0), B: imm(0)}},
		{"A9 00 00 00 00", api.Inst{Op: api.IAlu, Sub: api.Test, Size: 4, A: reg(0, 4), B: imm(0)}},
		{"66 85 08", api.Inst{Op: api.IAlu, Sub: api.Test, Size: 2, A: mem(2, api.Ds, 0, -1, 1, 0), B: reg(1, 2)}},
		{"66 47", api.Inst{Op: api.IAlu, Sub: api.Inc, Size: 2, A: reg(7, 2)}},
		{"FE CC", api.Inst{Op: api.IAlu, Sub: api.Dec, Size: 1, A: reg(4, 1)}},
		{"FF 4D 00", api.Inst{Op: api.IAlu, Sub: api.Dec, Size: 4, A: mem(4, api.Ss, 5, -1, 1, 0)}},
		{"66 F7 D0", api.Inst{Op: api.IAlu, Sub: api.Not, Size: 2, A: reg(0, 2)}},
		{"F6 D8", api.Inst{Op: api.IAlu, Sub: api.Neg, Size: 1, A: reg(0, 1)}},
		{"D1 F0", api.Inst{Op: api.IShift, Sub: api.Sal, Size: 4, A: reg(0, 4), B: imm(1)}},
		{"C1 E0 02", api.Inst{Op: api.IShift, Sub: api.Shl, Size: 4, A: reg(0, 4), B: imm(2)}},
		{"D2 20", api.Inst{Op: api.IShift, Sub: api.Shl, Size: 1, A: mem(1, api.Ds, 0, -1, 1, 0), B: reg(1, 1)}},
		{"0F AC D0 01", api.Inst{Op: api.IDouble, Sub: 1, Size: 4, A: reg(0, 4), B: reg(2, 4), C: imm(1)}},
		{"66 0F A5 D0", api.Inst{Op: api.IDouble, Size: 2, A: reg(0, 2), B: reg(2, 2), C: reg(1, 1)}},
		{"F6 E9", api.Inst{Op: api.IMul, Sub: 1, Size: 1, A: reg(1, 1)}},
		{"66 F7 31", api.Inst{Op: api.IDiv, Size: 2, A: mem(2, api.Ds, 1, -1, 1, 0)}},
		{"6B C3 80", api.Inst{Op: api.IImul, Size: 4, A: reg(0, 4), B: reg(3, 4), C: imm(0xFFFFFF80)}},
		{"69 C3 80 00 00 00", api.Inst{Op: api.IImul, Size: 4, A: reg(0, 4), B: reg(3, 4), C: imm(0x80)}},
		{"0F AF C3", api.Inst{Op: api.IImul, Size: 4, A: reg(0, 4), B: reg(3, 4)}},
		{"3F", api.Inst{Op: api.IAdjust, Sub: api.Aas, Size: 1}},
		{"D5 0A", api.Inst{Op: api.IAdjust, Sub: api.Aad, Size: 1, A: imm(10)}},
		{"64 A2 00 00 00 00", api.Inst{Op: api.IMov, Size: 1, A: mem(1, api.Fs, -1, -1, 1, 0), B: reg(0, 1)}},
		{"88 0D 00 00 00 00", api.Inst{Op: api.IMov, Size: 1, A: mem(1, api.Ds, -1, -1, 1, 0), B: reg(1, 1)}},
		{"B9 00 00 00 00", api.Inst{Op: api.IMov, Size: 4, A: reg(1, 4), B: imm(0)}},
		{"66 C7 00 01 00", api.Inst{Op: api.IMov, Size: 2, A: mem(2, api.Ds, 0, -1, 1, 0), B: imm(1)}},
		{"8C D8", api.Inst{Op: api.IMov, Size: 4, A: reg(0, 4), B: seg(api.Ds)}},
		{"66 8C D8", api.Inst{Op: api.IMov, Size: 2, A: reg(0, 2), B: seg(api.Ds)}},
		{"8C 18", api.Inst{Op: api.IMov, Size: 2, A: mem(2, api.Ds, 0, -1, 1, 0), B: seg(api.Ds)}},
		{"8E E8", api.Inst{Op: api.IMov, Size: 2, A: seg(api.Gs), B: reg(0, 2)}},
		{"0F BE C1", api.Inst{Op: api.IMovx, Sub: 1, Size: 4, A: reg(0, 4), B: reg(1, 1)}},
		{"66 0F B7 C1", api.Inst{Op: api.IMovx, Size: 2, A: reg(0, 2), B: reg(1, 2)}},
		{"93", api.Inst{Op: api.IXchg, Size: 4, A: reg(3, 4), B: reg(0, 4)}},
		{"87 D8", api.Inst{Op: api.IXchg, Size: 4, A: reg(0, 4), B: reg(3, 4)}},
		{"87 C0", api.Inst{Op: api.IXchg, Size: 4, A: reg(0, 4), B: reg(0, 4)}},
		{"86 C3", api.Inst{Op: api.IXchg, Size: 1, A: reg(3, 1), B: reg(0, 1)}},
		{"66 8D 05 01 00 00 00", api.Inst{Op: api.ILea, Size: 2, A: reg(0, 2), B: mem(2, api.Ds, -1, -1, 1, 1)}},
		{"6A FF", api.Inst{Op: api.IPush, Size: 4, A: imm(0xFFFFFFFF)}},
		{"66 6A FF", api.Inst{Op: api.IPush, Size: 2, A: imm(0xFFFF)}},
		{"68 FF FF 00 00", api.Inst{Op: api.IPush, Size: 4, A: imm(0xFFFF)}},
		{"0E", api.Inst{Op: api.IPush, Size: 4, A: seg(api.Cs)}},
		{"66 0F A9", api.Inst{Op: api.IPop, Size: 2, A: seg(api.Gs)}},
		{"5C", api.Inst{Op: api.IPop, Size: 4, A: reg(4, 4)}},
		{"8F 04 24", api.Inst{Op: api.IPop, Size: 4, A: mem(4, api.Ss, 4, -1, 1, 0)}},
		{"7F 80", api.Inst{Op: api.IJcc, Sub: 15, Size: 4, A: rel(0xFFFFFF80)}},
		{"0F 8F 80 00 00 00", api.Inst{Op: api.IJcc, Sub: 15, Size: 4, A: rel(0x80)}},
		{"66 0F 8F 80 00", api.Inst{Op: api.IJcc, Sub: 15, Size: 2, A: rel(0x80)}},
		{"66 EB 7F", api.Inst{Op: api.IJmp, Size: 2, A: rel(0x7F)}},
		{"E9 7F FF FF FF", api.Inst{Op: api.IJmp, Size: 4, A: rel(0xFFFFFF7F)}},
		{"FF E0", api.Inst{Op: api.IJmp, Size: 4, A: reg(0, 4)}},
		{"E8 00 00 00 00", api.Inst{Op: api.ICall, Size: 4, A: rel(0)}},
		{"66 E8 00 80", api.Inst{Op: api.ICall, Size: 2, A: rel(0xFFFF8000)}},
		{"C3", api.Inst{Op: api.IRet, Size: 4, A: imm(0)}},
		{"66 C2 01 00", api.Inst{Op: api.IRet, Size: 2, A: imm(1)}},
		{"CC", api.Inst{Op: api.IInt, Sub: 1, Size: 4, A: imm(3)}},
		{"CD 03", api.Inst{Op: api.IInt, Size: 4, A: imm(3)}},
		{"CE", api.Inst{Op: api.IInt, Sub: 2, Size: 4, A: imm(4)}},
		{"66 EA 00 00 FF FF", api.Inst{Op: api.IFar, Size: 2, A: far(0, 0xFFFF)}},
		{"F2 65 66 AF", api.Inst{Op: api.IString, Sub: 4, Size: 2, A: mem(2, api.Gs, -1, -1, 1, 0), Rep: api.Repne}},
		{"0F 22 D8", api.Inst{Op: api.IMovcr, Size: 4, A: cr(3), B: reg(0, 4)}},
		{"F3 A4", api.Inst{Op: api.IString, Size: 1, A: mem(1, api.Ds, -1, -1, 1, 0), Rep: api.Rep}},
		{"E5 FF", api.Inst{Op: api.IIn, Size: 4, A: reg(0, 4), B: imm(0xFF)}},
		{"66 EF", api.Inst{Op: api.IOut, Size: 2, A: reg(2, 2), B: reg(0, 2)}},
		{"F5", api.Inst{Op: api.IFlag, Sub: 2, Size: 4}},
		{"90", api.Inst{Op: api.INop, Size: 4}},
		{"0F 00 D9", api.Inst{Op: api.ILtr, Size: 2, A: reg(1, 2)}},
		{"0F 01 3B", api.Inst{Op: api.IInvlpg, Size: 4, A: mem(4, api.Ds, 3, -1, 1, 0)}},
		{"0F CF", api.Inst{Op: api.IBswap, Size: 4, A: reg(7, 4)}},
		{"0F BA F8 1F", api.Inst{Op: api.IBit, Sub: api.Btc, Size: 4, A: reg(0, 4), B: imm(31)}},
	} {
		b := unhex(t, c.b)
		writes(t, c.x, len(b))
		c.x.Len = len(b)
		if y, e := decode.Decode(b); e != api.OK || y != c.x {
			t.Fatalf("% X: %+v, %v", b, y, e)
		}
	}
}

// P7.1: by hand, in each part that can be wrong: no bytes are read as these.
func TestNoneByHand(t *testing.T) {
	at := mem(4, api.Ds, 0, -1, 1, 0)
	for _, x := range []api.Inst{
		{Op: -1, Size: 4},
		{Op: 0, Size: 4},
		{Op: api.IClts + 1, Size: 4},
		{Op: api.IAlu, Sub: 13, Size: 4, A: reg(0, 4)},
		{Op: api.IAlu, Sub: -1, Size: 4, A: reg(0, 4), B: reg(0, 4)},
		{Op: api.IAlu, Size: 0, A: reg(0, 0), B: reg(0, 0)},
		{Op: api.IAlu, Size: 8, A: reg(0, 8), B: reg(0, 8)},
		{Op: api.IAlu, Size: 4, A: reg(0, 4), B: reg(0, 2)},
		{Op: api.IAlu, Size: 2, A: reg(0, 4), B: reg(0, 4)},
		{Op: api.IAlu, Size: 4, A: reg(8, 4), B: reg(0, 4)},
		{Op: api.IAlu, Size: 4, A: at, B: at},
		{Op: api.IAlu, Size: 4, A: imm(1), B: reg(0, 4)},
		{Op: api.IAlu, Size: 1, A: reg(0, 1), B: imm(0x100)},
		{Op: api.IAlu, Size: 1, A: reg(0, 1), B: imm(0xFFFFFFFF)},
		{Op: api.IAlu, Size: 2, A: reg(0, 2), B: imm(0xFFFFFF80)},
		{Op: api.IAlu, Size: 4, A: reg(0, 4), B: reg(3, 4), C: reg(0, 4)},
		{Op: api.IAlu, Size: 4, A: reg(0, 4), B: reg(3, 4), Rep: api.Rep},
		{Op: api.IAlu, Sub: api.Inc, Size: 4, A: reg(0, 4), B: imm(1)},
		{Op: api.IAlu, Sub: api.Test, Size: 4, A: reg(0, 4), B: at},
		{Op: api.IShift, Sub: 8, Size: 4, A: reg(0, 4), B: imm(1)},
		{Op: api.IShift, Size: 4, A: reg(0, 4), B: reg(1, 4)},
		{Op: api.IShift, Size: 4, A: reg(0, 4), B: imm(0x100)},
		{Op: api.IDouble, Size: 1, A: reg(0, 1), B: reg(0, 1), C: imm(1)},
		{Op: api.IDouble, Sub: 2, Size: 4, A: reg(0, 4), B: reg(0, 4), C: imm(1)},
		{Op: api.IMul, Sub: 2, Size: 4, A: reg(0, 4)},
		{Op: api.IDiv, Sub: -2, Size: 4, A: reg(0, 4)},
		{Op: api.IImul, Size: 1, A: reg(0, 1), B: reg(0, 1)},
		{Op: api.IAdjust, Sub: 4, Size: 1},
		{Op: api.IAdjust, Sub: 0, Size: 1, A: imm(10)},
		{Op: api.IMov, Size: 2, A: seg(api.Cs), B: reg(0, 2)},
		{Op: api.IMov, Size: 4, A: seg(api.Ds), B: reg(0, 4)},
		{Op: api.IMov, Size: 4, A: mem(4, api.Ds, 0, -1, 1, 0), B: seg(api.Ds)},
		{Op: api.IMov, Size: 2, A: reg(0, 2), B: seg(6)},
		{Op: api.IMovx, Size: 4, A: reg(0, 4), B: reg(0, 4)},
		{Op: api.IMovx, Size: 1, A: reg(0, 1), B: reg(0, 1)},
		{Op: api.IXchg, Size: 4, A: reg(0, 4), B: at},
		{Op: api.ILea, Size: 4, A: reg(0, 4), B: reg(0, 4)},
		{Op: api.ILea, Size: 2, A: reg(0, 2), B: at},
		{Op: api.IPush, Size: 1, A: reg(0, 1)},
		{Op: api.IPush, Size: 1, A: imm(1)},
		{Op: api.IPop, Size: 4, A: seg(api.Cs)},
		{Op: api.IPop, Size: 4, A: imm(1)},
		{Op: api.IPusha, Size: 1},
		{Op: api.ISahf, Size: 4},
		{Op: api.IJcc, Sub: 16, Size: 4, A: rel(0)},
		{Op: api.IJcc, Size: 2, A: rel(0x8000)},
		{Op: api.IJcc, Size: 4, A: imm(0)},
		{Op: api.IJmp, Size: 2, A: rel(0xFFFF)},
		{Op: api.IRet, Size: 4},
		{Op: api.IRet, Size: 4, A: imm(0x10000)},
		{Op: api.ILoop, Sub: 4, Size: 4, A: rel(0)},
		{Op: api.ILoop, Size: 4, A: rel(0x80)},
		{Op: api.IInt, Sub: 1, Size: 4, A: imm(4)},
		{Op: api.IInt, Size: 2, A: imm(3)},
		{Op: api.IFar, Size: 2, A: far(0x10000, 0)},
		{Op: api.IFar, Size: 4, A: far(0, 0x10000)},
		{Op: api.IString, Sub: 5, Size: 4, A: mem(4, api.Ds, -1, -1, 1, 0)},
		{Op: api.IString, Size: 4, A: mem(4, api.Ds, -1, -1, 1, 1)},
		{Op: api.IString, Size: 4, A: mem(4, api.Ds, 6, -1, 1, 0)},
		{Op: api.IString, Size: 4, A: mem(4, api.Ds, -1, -1, 1, 0), Rep: 3},
		{Op: api.IString, Size: 4},
		{Op: api.IIn, Size: 4, A: reg(0, 4), B: reg(2, 4)},
		{Op: api.IIn, Size: 4, A: reg(1, 4), B: reg(2, 2)},
		{Op: api.IOut, Size: 4, A: imm(0x100), B: reg(0, 4)},
		{Op: api.IFlag, Sub: 7, Size: 4},
		{Op: api.IHlt, Size: 2},
		{Op: api.INop, Size: 1},
		{Op: api.ILgdt, Size: 4, A: reg(0, 4)},
		{Op: api.ILtr, Size: 4, A: reg(0, 4)},
		{Op: api.IMovcr, Size: 4, A: cr(1), B: reg(0, 4)},
		{Op: api.IMovcr, Size: 4, A: cr(4), B: reg(0, 4)},
		{Op: api.IMovcr, Size: 4, A: at, B: cr(0)},
		{Op: api.IBit, Size: 1, A: reg(0, 1), B: reg(0, 1)},
		{Op: api.IBswap, Size: 2, A: reg(0, 2)},
	} {
		refuses(t, x)
	}
	for _, o := range []api.Operand{
		mem(4, api.Ds, 0, 4, 1, 0),
		mem(4, api.Ds, 0, -1, 2, 0),
		mem(4, api.Ds, 0, -1, 0, 0),
		mem(4, api.Ds, 0, 1, 3, 0),
		mem(4, api.Ds, 0, 1, 16, 0),
		mem(4, api.Ds, 8, -1, 1, 0),
		mem(4, api.Ds, -2, -1, 1, 0),
		mem(4, api.Ds, 0, 8, 1, 0),
		mem(4, api.Ds, 0, -2, 1, 0),
		mem(4, 6, 0, -1, 1, 0),
		mem(4, -1, 0, -1, 1, 0),
		mem(2, api.Ds, 0, -1, 1, 0),
		{Kind: api.OMem, Size: 4, Seg: api.Ds, Index: -1, Scale: 1, Imm: 1},
		{Kind: api.OMem, Size: 4, Seg: api.Ds, Index: -1, Scale: 1, Reg: 1},
		{Kind: api.OReg, Size: 4, Seg: api.Ds},
		{Kind: api.OReg, Size: 4, Base: -1},
		{Kind: api.OReg, Size: 4, Index: -1},
		{Kind: api.OReg, Size: 4, Scale: 1},
		{Kind: api.OReg, Size: 4, Disp: 1},
		{Kind: api.OReg, Size: 4, Imm: 1},
		{Kind: api.OImm, Size: 4},
		{Kind: api.OImm, Reg: 1},
		{Kind: api.OImm, Disp: 1},
		{Kind: api.OSeg, Size: 2},
		{Kind: api.OSeg, Imm: 1},
		{Kind: 8},
		{Kind: -1},
		{Reg: 1},
	} {
		refuses(t, api.Inst{Op: api.IPush, Size: 4, A: o})
	}
}

// memories are with and without base and index, in each segment, with Disp of no, one and four bytes; their Size is to be set.
var memories = sync.OnceValue(func() []api.Operand {
	var all []api.Operand
	for base := -1; base < 8; base++ {
		for index := -1; index < 8; index++ {
			for _, scale := range []int{1, 2, 4, 8} {
				if index == 4 || index == -1 && scale > 1 {
					continue
				}
				for _, disp := range []uint32{0, 1, 0x7F, 0x80, 0xFF, 0x7FFFFFFF, 0x80000000, 0xFFFFFF7F, 0xFFFFFF80, 0xFFFFFFFF} {
					for s := range 6 {
						all = append(all, mem(0, s, base, index, scale, disp))
					}
				}
			}
		}
	}
	return all
})

// P7.1: all memory, in instructions of both sizes that have nothing else to them.
func TestMemory(t *testing.T) {
	all := rows()
	for _, size := range []int{2, 4} {
		t.Run(fmt.Sprint(size), func(t *testing.T) {
			t.Parallel()
			for i, o := range memories() {
				o.Size = size
				for _, x := range []api.Inst{
					{Op: api.ILea, Size: size, A: reg(i%8, size), B: o},
					{Op: api.IPush, Size: size, A: o},
				} {
					if !right(t, all, x) {
						t.Fatalf("%+v", x)
					}
				}
			}
		})
	}
}

// some are each nth of a list, from one of the first on.
func some[T any](all []T, n, from int) []T {
	var out []T
	for i := from % n; i < len(all); i += n {
		out = append(out, all[i])
	}
	return out
}

// samples are operands such as a word says, and others near them: of registers all, of numbers the ends, of memory those that the turn brings.
func samples(word string, size, turn int) []api.Operand {
	var all []api.Operand
	s := sizeOf(word, size)
	if strings.Contains("GRErA", word[:1]) || word == "CL" || word == "DX" {
		for r := range 8 {
			all = append(all, reg(r, s))
		}
	}
	switch word[0] {
	case 'E', 'M':
		for _, o := range some(memories(), 331, turn) {
			o.Size = s
			all = append(all, o)
		}
	case 'O', 'X':
		for _, o := range memories() {
			o.Size = s
			if o.Base == -1 && o.Index == -1 {
				all = append(all, o)
			}
		}
	case 'S':
		for r := range 6 {
			all = append(all, seg(r))
		}
	case 'C':
		for r := range 8 {
			all = append(all, cr(r))
		}
		all = append(all, reg(1, 1))
	case 'D':
		all = append(all, reg(2, 2))
	}
	return append(all, sampleNumbers(word)...)
}

func sampleNumbers(word string) []api.Operand {
	var all []api.Operand
	for i, n := range numbers {
		switch word[0] {
		case 'I', '=':
			all = append(all, imm(n))
		case 'J':
			all = append(all, rel(n))
		case 'F':
			all = append(all, far(n, 0xFFFF), far(n, uint32(i)), far(0x1234, n))
		}
	}
	return all
}

// instructions are those of a row with a Sub and a size, as samples make them.
func (r row) instructions(sub, size int) []api.Inst {
	out := []api.Inst{{Op: r.op, Sub: sub, Size: size}}
	for i, word := range strings.Fields(r.operands) {
		var more []api.Inst
		for _, x := range out {
			for _, o := range samples(word, size, sub+3*size) {
				*[]*api.Operand{&x.A, &x.B, &x.C}[i] = o
				more = append(more, x)
			}
		}
		out = more
	}
	return out
}

// P7.1: each row with each Sub, each size, each kind of operand, each register and the ends of numbers; strings with both repetitions.
func TestRows(t *testing.T) {
	all := rows()
	for _, r := range all {
		t.Run(fmt.Sprintf("%d %s %s", r.op, r.size, r.operands), func(t *testing.T) {
			t.Parallel()
			for sub := r.first; sub <= r.last; sub++ {
				for _, size := range sizes(r.size) {
					written := 0
					for _, x := range r.instructions(sub, size) {
						for x.Rep = range 3 {
							if right(t, all, x) {
								written++
							}
							if x.Op != api.IString {
								break
							}
						}
					}
					if written == 0 {
						t.Fatalf("of %+v, Sub %d, size %d nothing was written", r, sub, size)
					}
				}
			}
		})
	}
}

// ordinary are a few instructions of each row, Sub and size that there are bytes for.
var ordinary = sync.OnceValue(func() []api.Inst {
	var out []api.Inst
	for _, r := range rows() {
		for _, sub := range slices.Compact([]int{r.first, r.last}) {
			for _, size := range sizes(r.size) {
				var ok []api.Inst
				for _, x := range r.instructions(sub, size) {
					if r.takes(x) > 0 {
						ok = append(ok, x)
					}
				}
				out = append(out, some(ok, len(ok)/2+1, 5)...)
			}
		}
	}
	return out
})

// wholes are all whole numbers of an instruction but Len.
func wholes(x *api.Inst) []*int {
	out := []*int{&x.Op, &x.Sub, &x.Size, &x.Rep}
	for _, o := range []*api.Operand{&x.A, &x.B, &x.C} {
		out = append(out, &o.Kind, &o.Reg, &o.Size, &o.Seg, &o.Base, &o.Index, &o.Scale)
	}
	return out
}

func words(x *api.Inst) []*uint32 {
	return []*uint32{&x.A.Disp, &x.A.Imm, &x.B.Disp, &x.B.Imm, &x.C.Disp, &x.C.Imm}
}

// spoilt are an instruction with one field another number, each in turn.
func spoilt(x api.Inst) []api.Inst {
	var out []api.Inst
	for i := range wholes(&x) {
		for _, n := range wrongs {
			y := x
			*wholes(&y)[i] = n
			out = append(out, y)
		}
	}
	for i := range words(&x) {
		for _, n := range numbers {
			y := x
			*words(&y)[i] = n
			out = append(out, y)
		}
	}
	return out
}

// exchanged are an instruction with one operand another one, or none, and with operands in other places.
func exchanged(x api.Inst) []api.Inst {
	var out []api.Inst
	others := []api.Operand{{}, x.A, x.B, x.C, imm(0), imm(1), imm(3), seg(0), seg(1), seg(5), cr(0), rel(0), far(0, 0), {Kind: 8}, {Kind: -1}}
	for _, size := range []int{1, 2, 4} {
		others = append(others, reg(0, size), reg(1, size), reg(2, size), mem(size, api.Ds, -1, -1, 1, 0), mem(size, api.Ss, 5, 6, 8, 0x100))
	}
	for i := range 3 {
		for _, o := range others {
			y := x
			*[]*api.Operand{&y.A, &y.B, &y.C}[i] = o
			out = append(out, y)
		}
	}
	y := x
	y.A, y.B = x.B, x.A
	z := x
	z.B, z.C = x.C, x.B
	return append(out, y, z)
}

// P7.1, R1: wrong in each field of the instruction and of each operand, with operands missing, too many and of other kinds: ErrEncode and no bytes, unless it has become another instruction.
func TestSpoilt(t *testing.T) {
	all := rows()
	for i, part := range slices.Collect(slices.Chunk(ordinary(), 40)) {
		t.Run(fmt.Sprint(i), func(t *testing.T) {
			t.Parallel()
			none := 0
			for _, x := range part {
				if !right(t, all, x) {
					t.Fatalf("%+v", x)
				}
				for _, y := range slices.Concat(spoilt(x), exchanged(x)) {
					if !right(t, all, y) {
						none++
					}
				}
			}
			if none < 300*len(part) {
				t.Fatalf("only %d were refused", none)
			}
		})
	}
}

// dice is a row of numbers that is the same in each run.
type dice uint64

func (d *dice) roll(n int) int {
	*d = *d*6364136223846793005 + 1442695040888963407
	return int(uint64(*d) >> 33 % uint64(n))
}

// P7.1, R1: wrong in several fields at once, and made of any numbers.
func TestSpoiltOften(t *testing.T) {
	all := rows()
	from := ordinary()
	d := dice(7)
	for range 30000 {
		x := from[d.roll(len(from))]
		for range 1 + d.roll(4) {
			if d.roll(3) > 0 {
				fields := wholes(&x)
				*fields[d.roll(len(fields))] = wrongs[d.roll(len(wrongs))]
			} else {
				fields := words(&x)
				*fields[d.roll(len(fields))] = numbers[d.roll(len(numbers))]
			}
		}
		right(t, all, x)
	}
	for range 20000 {
		var x api.Inst
		for _, f := range wholes(&x) {
			*f = wrongs[d.roll(len(wrongs))]
		}
		for _, f := range words(&x) {
			*f = numbers[d.roll(len(numbers))]
		}
		x.Op = d.roll(50)
		right(t, all, x)
	}
}

// again is P7.2 of bytes: whether they are read, and then what was read is written, is read as the same, and is not longer. What was seen already is not written once more.
func again(t *testing.T, all []row, seen map[api.Inst]int, b []byte) bool {
	t.Helper()
	x, e := decode.Decode(b)
	if e != api.OK {
		return false
	}
	length := x.Len
	x.Len = 0
	n, ok := seen[x]
	if !ok {
		n = len(writes(t, x, fewest(all, x)))
		seen[x] = n
	}
	if n > length {
		t.Fatalf("% X: %+v: %d bytes, %d are enough", b, x, n, length)
	}
	return true
}

// opcodes are all of one byte that is no prefix, and all of 0F and one.
func opcodes() [][]byte {
	var out [][]byte
	for c := range 256 {
		if !slices.Contains([]byte{0x26, 0x2E, 0x36, 0x3E, 0x64, 0x65, 0x66, 0xF2, 0xF3, 0x0F}, byte(c)) {
			out = append(out, []byte{byte(c)})
		}
		out = append(out, []byte{0x0F, byte(c)})
	}
	return out
}

// P7.1, P7.2: of all bytes that begin with a prefix or none, an opcode and ModRM: no fewer are read as the same.
func TestAllOpcodes(t *testing.T) {
	all := rows()
	ahead := []string{"", "26", "2E", "36", "3E", "64", "65", "66", "F2", "F3", "66 64", "36 66", "F2 F3 66", "3E 36"}
	behind := []string{"24 00 00 00 00 00 00 00 00 00", "8D 7F 00 00 00 80 FF FF FF FF", "25 80 FF FF FF 01 00 00 00 00"}
	for i, part := range slices.Collect(slices.Chunk(opcodes(), 16)) {
		t.Run(fmt.Sprint(i), func(t *testing.T) {
			t.Parallel()
			for _, code := range part {
				if _, e := decode.Decode(code); e == api.ErrDecodeUd {
					continue
				}
				read, seen := false, map[api.Inst]int{}
				for j, p := range ahead {
					for k, q := range behind {
						if j > 0 && (j+int(code[0]))%len(behind) != k {
							continue
						}
						for m := range 256 {
							b := slices.Concat(unhex(t, p), code, []byte{byte(m)}, unhex(t, q))
							read = again(t, all, seen, b) || read
						}
					}
				}
				if !read {
					t.Fatalf("% X were never read", code)
				}
			}
		})
	}
}

// P7.1, P7.2: of all bytes of which there are one or two, and of many of which there are three.
func TestFewBytes(t *testing.T) {
	all := rows()
	for first := range 256 {
		seen := map[api.Inst]int{}
		again(t, all, seen, []byte{byte(first)})
		for second := range 256 {
			again(t, all, seen, []byte{byte(first), byte(second)})
			again(t, all, seen, []byte{byte(first), byte(second), byte(7*first + 11*second)})
		}
	}
}

// P7.2: of drawn bytes, with prefixes that are too many and numbers in more bytes than they need.
func TestDrawnBytes(t *testing.T) {
	all := rows()
	for i := range 8 {
		t.Run(fmt.Sprint(i), func(t *testing.T) {
			t.Parallel()
			d, read := dice(70+i), 0
			codes := opcodes()
			for range 8000 {
				var b []byte
				for d.roll(2) == 0 && len(b) < 12 {
					b = append(b, []byte{0x26, 0x2E, 0x36, 0x3E, 0x64, 0x65, 0x66, 0xF2, 0xF3}[d.roll(9)])
				}
				b = slices.Concat(b, codes[d.roll(len(codes))], []byte{byte(d.roll(256)), byte(d.roll(256))})
				b = b[:len(b)-d.roll(2)]
				for range 3 {
					n := numbers[d.roll(len(numbers))]
					b = append(b, byte(n), byte(n>>8), byte(n>>16), byte(n>>24))
				}
				if again(t, all, map[api.Inst]int{}, b) {
					read++
				}
			}
			if read < 2000 {
				t.Fatal(read)
			}
		})
	}
}

// P7.1, R5: Len is not looked at, and the same bytes are written whenever the same is handed in.
func TestSame(t *testing.T) {
	for _, x := range ordinary() {
		first, e := Encode(x)
		if e != api.OK {
			t.Fatalf("%+v: %v", x, e)
		}
		for _, x.Len = range []int{0, 1, 15, 16, 99, -1, math.MinInt, math.MaxInt} {
			if b, e := Encode(x); e != api.OK || !bytes.Equal(b, first) {
				t.Fatalf("%+v: % X, %v, and % X", x, b, e, first)
			}
		}
	}
	for _, n := range []int{0, 2, 15, 99, -1} {
		refuses(t, api.Inst{Op: api.IRet, Size: 3, A: imm(0), Len: n})
	}
}

// R4: what is answered is new memory, its spare room too, and what is handed in stays.
func TestNewMemory(t *testing.T) {
	for _, x := range ordinary() {
		before := x
		first, _ := Encode(x)
		want := bytes.Clone(first)
		second, _ := Encode(x)
		for i := range first[:cap(first)] {
			first[:cap(first)][i] = 0xF0
		}
		third, _ := Encode(x)
		if !bytes.Equal(second, want) || !bytes.Equal(third, want) || x != before {
			t.Fatalf("%+v: % X, % X, want % X", x, second, third, want)
		}
	}
}
