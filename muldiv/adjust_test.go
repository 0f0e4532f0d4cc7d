package muldiv

import (
	"testing"

	"drawloom/api"
)

var wrongOps = []int{-1 << 63, -6, -1, 6, 7, 8, 16, 256, 1 << 32, 1<<32 + 1, 1<<32 + 4, 1<<63 - 1}

// toByte folds a number below 0, or above a byte, into a byte.
func toByte(n int) int { return (n%256 + 256) % 256 }

func modelPacked(sign, al int, af, cf bool) (x int, newAf, newCf bool) {
	x = al
	if al%16 > 9 || af {
		x += 6 * sign
		newAf = true
	}
	below := x < 0
	if al > 153 || cf {
		x += 96 * sign
		newCf = true
	}
	return toByte(x), newAf, newCf || below
}

func modelSingle(sign, al, ah int, af bool) (x, y int, off bool) {
	if al%16 > 9 || af {
		return toByte(al+6*sign) % 16, toByte(ah + sign), true
	}
	return al % 16, ah, false
}

func modelAdjust(op int, al, ah, base, flags uint32) (x, y, f uint32, ok bool) {
	low, high, by := toByte(int(al)), toByte(int(ah)), toByte(int(base))
	wasAf, wasCf := flags&api.AF != 0, flags&api.CF != 0
	af, cf := false, false
	sign := 1
	if op == api.Das || op == api.Aas {
		sign = -1
	}
	switch op {
	case api.Daa, api.Das:
		low, af, cf = modelPacked(sign, low, wasAf, wasCf)
	case api.Aaa, api.Aas:
		low, high, af = modelSingle(sign, low, high, wasAf)
		cf = af
	case api.Aam:
		if by == 0 {
			return 0, 0, 0, false
		}
		high = 0
		for ; low >= by; low -= by {
			high++
		}
	case api.Aad:
		low, high = toByte(low+high*by), 0
	}
	flags = put(put(put(flags, api.AF, af), api.CF, cf), api.OF, false)
	return uint32(low), uint32(high), byResult(1, uint32(low), flags), true
}

func checkAdjust(t *testing.T, op int, al, ah, base, flags uint32) {
	t.Helper()
	x, y, f, ok, e := Adjust(op, al, ah, base, flags)
	wantX, wantY, wantF, wantOk := modelAdjust(op, al, ah, base, flags)
	if x != wantX || y != wantY || f != wantF || ok != wantOk || e != api.OK {
		t.Fatalf("Adjust(%d, %#x, %#x, %d, %#x) = %#x, %#x, %#x, %v, %d; want %#x, %#x, %#x, %v, 0", op, al, ah, base, flags, x, y, f, ok, e, wantX, wantY, wantF, wantOk)
	}
}

// P3.4: every byte, with AF and CF set and not set, and flags that are not named.
func TestAdjustOfAllBytes(t *testing.T) {
	for op := api.Daa; op <= api.Aad; op++ {
		for al := range uint32(256) {
			for _, ah := range []uint32{0, 1, 9, 127, 255} {
				for _, base := range []uint32{0, 1, 10, 16, 128, 255} {
					for _, marks := range []uint32{0, api.AF, api.CF, api.AF | api.CF} {
						checkAdjust(t, op, al, ah, base, marks)
						checkAdjust(t, op, al, ah, base, allBits&^(api.AF|api.CF)|marks)
						checkAdjust(t, op, al, ah, base, allBits&^named|marks)
					}
				}
			}
		}
	}
}

// P3.4: every AH and every base.
func TestPartAndJoinOfAllBytes(t *testing.T) {
	for a := range uint32(256) {
		for base := range uint32(256) {
			checkAdjust(t, api.Aam, a, 9, base, api.AF|api.CF|api.OF)
			checkAdjust(t, api.Aad, 200, a, base, api.AF|api.CF|api.OF)
			checkAdjust(t, api.Aad, 7, a, base, 0)
		}
	}
}

// P3.4: what is above a byte is not looked at, of a base that is 0 then neither.
func TestAdjustOfBitsAbove(t *testing.T) {
	for op := api.Daa; op <= api.Aad; op++ {
		for _, above := range []uint32{0x100, 0xFFFFFF00, 0x80000000} {
			for al := range uint32(256) {
				for _, base := range []uint32{0, 10} {
					for _, flags := range flagWords {
						checkAdjust(t, op, above|al, above|3, above|base, flags)
					}
				}
			}
		}
	}
}

// P3.4, written out by hand, so that a fault of the model's would show.
func TestAdjustByHand(t *testing.T) {
	const both = api.AF | api.CF
	for _, c := range []struct {
		op                  int
		al, ah, base, flags uint32
		x, y, f             uint32
	}{
		{api.Daa, 0x9A, 7, 0, api.OF, 0, 7, both | api.ZF | api.PF},
		{api.Daa, 0x99, 0, 0, 0, 0x99, 0, api.SF | api.PF},
		{api.Daa, 0x79, 0, 0, api.AF, 0x7F, 0, api.AF},
		{api.Daa, 0x10, 255, 0, api.CF, 0x70, 255, api.CF},
		{api.Daa, 0x0A, 1, 0, 0, 0x10, 1, api.AF},
		{api.Daa, 0xFF, 1, 0, 0, 0x65, 1, both | api.PF},
		{api.Daa, 0xA0, 1, 0, 0, 0, 1, api.CF | api.ZF | api.PF},
		{api.Daa, 0x32, 0, 0, both, 0x98, 0, both | api.SF},
		{api.Das, 0x05, 7, 0, api.AF, 0xFF, 7, both | api.SF | api.PF},
		{api.Das, 0x06, 7, 0, api.AF, 0, 7, api.AF | api.ZF | api.PF},
		{api.Das, 0x05, 7, 0, both, 0x9F, 7, both | api.SF | api.PF},
		{api.Das, 0x99, 0, 0, 0, 0x99, 0, api.SF | api.PF},
		{api.Das, 0x9A, 0, 0, 0, 0x34, 0, both},
		{api.Das, 0xFF, 0, 0, 0, 0x99, 0, both | api.SF | api.PF},
		{api.Das, 0x10, 255, 0, api.CF | api.OF, 0xB0, 255, api.CF | api.SF},
		{api.Das, 0x0F, 0, 0, 0, 0x09, 0, api.AF | api.PF},
		{api.Aaa, 0x0A, 0, 0, 0, 0, 1, both | api.ZF | api.PF},
		{api.Aaa, 0x39, 3, 0, api.CF, 9, 3, api.PF},
		{api.Aaa, 0xFF, 255, 0, 0, 5, 0, both | api.PF},
		{api.Aaa, 0xF5, 255, 0, api.AF, 0x0B, 0, both},
		{api.Aas, 0x0A, 0, 0, 0, 4, 255, both},
		{api.Aas, 0x02, 5, 0, api.AF, 0x0C, 4, both | api.PF},
		{api.Aas, 0x38, 5, 0, api.CF, 8, 5, 0},
		{api.Aam, 35, 9, 10, both | api.OF, 5, 3, api.PF},
		{api.Aam, 255, 0, 255, 0, 0, 1, api.ZF | api.PF},
		{api.Aam, 254, 0, 255, 0, 254, 0, api.SF},
		{api.Aam, 0xAB, 0, 16, 0, 0x0B, 0x0A, 0},
		{api.Aad, 5, 3, 10, both | api.OF, 35, 0, 0},
		{api.Aad, 255, 255, 255, 0, 0, 0, api.ZF | api.PF},
		{api.Aad, 0x0B, 0x0A, 16, 0, 0xAB, 0, api.SF},
		{api.Aad, 6, 25, 10, 0, 0, 0, api.ZF | api.PF},
		{api.Aad, 6, 25, 0, 0, 6, 0, api.PF},
	} {
		if x, y, f, ok, e := Adjust(c.op, c.al, c.ah, c.base, c.flags); x != c.x || y != c.y || f != c.f || !ok || e != api.OK {
			t.Errorf("%+v: %#x, %#x, %#x, %v, %d", c, x, y, f, ok, e)
		}
	}
}

// P3.1, P3.4: Aam by 0 has nothing beside its false, and is no error.
func TestAamByNought(t *testing.T) {
	for _, base := range []uint32{0, 0x100, 0xFFFFFF00} {
		if x, y, f, ok, e := Adjust(api.Aam, 35, 9, base, allBits); x != 0 || y != 0 || f != 0 || ok || e != api.OK {
			t.Errorf("by %#x: %d, %d, %d, %v, %d", base, x, y, f, ok, e)
		}
	}
}

// P3.4: an op that is none, noughts beside.
func TestAdjustOfWrongOps(t *testing.T) {
	for _, op := range wrongOps {
		for _, base := range []uint32{0, 10} {
			if x, y, f, ok, e := Adjust(op, 35, 9, base, allBits); x != 0 || y != 0 || f != 0 || ok || e != api.ErrOp {
				t.Errorf("op %d: %d, %d, %d, %v, %d", op, x, y, f, ok, e)
			}
		}
	}
}

// P3.4, in what it is for: sums and differences of decimal digits, two of them in a byte.
func TestSumsOfDecimals(t *testing.T) {
	packed := func(n int) int { return n/10*16 + n%10 }
	for a := range 100 {
		for b := range 100 {
			flags := put(0, api.AF, packed(a)%16+packed(b)%16 > 15)
			flags = put(flags, api.CF, packed(a)+packed(b) > 255)
			x, _, f, _, _ := Adjust(api.Daa, uint32(toByte(packed(a)+packed(b))), 0, 0, flags)
			if x != uint32(packed((a+b)%100)) || f&api.CF != put(0, api.CF, a+b > 99) {
				t.Fatalf("%d and %d: %#x, %#x", a, b, x, f)
			}
			flags = put(0, api.AF, packed(a)%16 < packed(b)%16)
			flags = put(flags, api.CF, a < b)
			x, _, f, _, _ = Adjust(api.Das, uint32(toByte(packed(a)-packed(b))), 0, 0, flags)
			if x != uint32(packed((a-b+100)%100)) || f&api.CF != put(0, api.CF, a < b) {
				t.Fatalf("%d less %d: %#x, %#x", a, b, x, f)
			}
		}
	}
}

// P3.5: what Aam parts Aad puts together, with one base.
func TestPartAndJoin(t *testing.T) {
	for al := range uint32(256) {
		for base := uint32(1); base < 256; base++ {
			x, y, f, _, _ := Adjust(api.Aam, al, 0, base, 0)
			if x >= base {
				t.Fatalf("%d by %d: %d is left", al, base, x)
			}
			if back, rest, _, ok, e := Adjust(api.Aad, x, y, base, f); back != al || rest != 0 || !ok || e != api.OK {
				t.Fatalf("%d by %d: %d and %d come to %d, %d, %v, %d", al, base, x, y, back, rest, ok, e)
			}
		}
	}
}
