package muldiv

import (
	"math/big"
	"testing"

	"drawloom/api"
)

const (
	allBits = 0xFFFFFFFF
	named   = api.CF | api.OF | api.AF | api.ZF | api.SF | api.PF
)

var sizes = []int{1, 2, 4}

var wrongSizes = []int{-1 << 63, -4, -2, -1, 0, 3, 5, 6, 7, 8, 16, 32, 1 << 32, 1<<32 + 1, 1<<32 + 4, 1<<63 - 1}

var flagWords = []uint32{0, allBits, named, allBits &^ named, api.CF, api.OF, api.AF, api.One | api.IF | api.DF}

var bothWays = []bool{false, true}

func put(flags, flag uint32, set bool) uint32 {
	if set {
		return flags | flag
	}
	return flags &^ flag
}

func byResult(size int, result, flags uint32) uint32 {
	ones := 0
	for n := result % 256; n > 0; n /= 2 {
		ones += int(n % 2)
	}
	flags = put(flags, api.ZF, result == 0)
	flags = put(flags, api.SF, result>>(8*size-1) == 1)
	return put(flags, api.PF, ones%2 == 0)
}

// power is 2 to the power of the bits of so many bytes.
func power(bytes int) *big.Int { return new(big.Int).Lsh(big.NewInt(1), uint(8*bytes)) }

// read is a number of so many bytes as it stands in whole numbers that nothing is cut off of.
func read(signed bool, bytes int, n uint64) *big.Int {
	all := power(bytes)
	v := new(big.Int).Mod(new(big.Int).SetUint64(n), all)
	if signed && new(big.Int).Lsh(v, 1).Cmp(all) >= 0 {
		v.Sub(v, all)
	}
	return v
}

// write is v folded into so many bytes.
func write(bytes int, v *big.Int) uint64 { return new(big.Int).Mod(v, power(bytes)).Uint64() }

func modelMul(signed bool, size int, a, b, flags uint32) (lo, hi, f uint32) {
	product := new(big.Int).Mul(read(signed, size, uint64(a)), read(signed, size, uint64(b)))
	all := write(2*size, product)
	lo, hi = uint32(all%(1<<(8*size))), uint32(all>>(8*size))
	// The upper half is more than the lower one's where the lower one alone is not the product.
	more := read(signed, size, uint64(lo)).Cmp(product) != 0
	f = put(put(flags, api.CF, more), api.OF, more)
	return lo, hi, byResult(size, lo, put(f, api.AF, false))
}

func modelDiv(signed bool, size int, lo, hi, by uint32) (q, r uint32, ok bool) {
	divisor := read(signed, size, uint64(by))
	if divisor.Sign() == 0 {
		return 0, 0, false
	}
	upper := new(big.Int).Mul(read(signed, size, uint64(hi)), power(size))
	dividend := upper.Add(upper, read(false, size, uint64(lo)))
	quotient, left := new(big.Int).QuoRem(dividend, divisor, new(big.Int))
	q, r = uint32(write(size, quotient)), uint32(write(size, left))
	if read(signed, size, uint64(q)).Cmp(quotient) != 0 {
		return 0, 0, false
	}
	return q, r, true
}

func checkMul(t *testing.T, signed bool, size int, a, b, flags uint32) {
	t.Helper()
	lo, hi, f, e := Mul(signed, size, a, b, flags)
	wantLo, wantHi, wantF := modelMul(signed, size, a, b, flags)
	if lo != wantLo || hi != wantHi || f != wantF || e != api.OK {
		t.Fatalf("Mul(%v, %d, %#x, %#x, %#x) = %#x, %#x, %#x, %d; want %#x, %#x, %#x, 0", signed, size, a, b, flags, lo, hi, f, e, wantLo, wantHi, wantF)
	}
}

func checkDiv(t *testing.T, signed bool, size int, lo, hi, by uint32) {
	t.Helper()
	q, r, ok, e := Div(signed, size, lo, hi, by)
	wantQ, wantR, wantOk := modelDiv(signed, size, lo, hi, by)
	if q != wantQ || r != wantR || ok != wantOk || e != api.OK {
		t.Fatalf("Div(%v, %d, %#x, %#x, %#x) = %#x, %#x, %v, %d; want %#x, %#x, %v, 0", signed, size, lo, hi, by, q, r, ok, e, wantQ, wantR, wantOk)
	}
}

// values are at both ends of each size, signed and not, and have bits above the smaller sizes.
func values() []uint32 {
	var out []uint32
	for _, middle := range []uint32{0, 0x10, 0x80, 0x100, 0x8000, 0x10000, 0x80000000} {
		out = append(out, middle-2, middle-1, middle, middle+1, middle+2)
	}
	return append(out, 7, 10, 0xB5, 0xB6, 0xB504, 0xB505, 0xFFFFFFF9, 0xFFFFFF00, 0xFFFF0000, 0x12345678, 0x9ABCDEF0, 0x3FF, 0x5A7FFF)
}

// P3.1, P3.2: every pair of bytes.
func TestMulOfAllBytes(t *testing.T) {
	for _, signed := range bothWays {
		for a := range uint32(256) {
			for b := range uint32(256) {
				checkMul(t, signed, 1, a, b, 0)
			}
		}
	}
}

// P3.1, P3.2: edges of every size, bits above it, and flags that are not named.
func TestMulAtEdges(t *testing.T) {
	for _, signed := range bothWays {
		for _, size := range sizes {
			for _, a := range values() {
				for _, b := range values() {
					for _, flags := range flagWords {
						checkMul(t, signed, size, a, b, flags)
					}
				}
			}
		}
	}
}

// P3.2, written out by hand, so that a fault of the model's would show: the upper half 0, all ones, and neither, the lower half's top set and not set.
func TestMulByHand(t *testing.T) {
	const more = api.CF | api.OF
	for _, c := range []struct {
		signed      bool
		size        int
		a, b, flags uint32
		lo, hi, f   uint32
	}{
		{false, 1, 16, 16, api.AF, 0, 1, more | api.ZF | api.PF},
		{false, 1, 16, 8, more, 0x80, 0, api.SF},
		{false, 1, 5, 3, more, 15, 0, api.PF},
		{false, 1, 255, 255, 0, 1, 254, more},
		{false, 1, 255, 1, 0, 255, 0, api.SF | api.PF},
		{false, 1, 0x1FF, 0x302, api.IF, 254, 1, more | api.IF | api.SF},
		{true, 1, 255, 2, 0, 254, 255, api.SF},
		{true, 1, 16, 8, 0, 0x80, 0, more | api.SF},
		{true, 1, 240, 8, more, 0x80, 255, api.SF},
		{true, 1, 240, 9, 0, 0x70, 255, more},
		{true, 1, 255, 255, more, 1, 0, 0},
		{true, 1, 128, 128, 0, 0, 0x40, more | api.ZF | api.PF},
		{true, 1, 128, 255, 0, 0x80, 0, more | api.SF},
		{true, 1, 128, 127, 0, 0x80, 0xC0, more | api.SF},
		{true, 1, 0xFFFFFF80, 0x201, 0, 0x80, 255, api.SF},
		{false, 2, 0x8000, 2, 0, 0, 1, more | api.ZF | api.PF},
		{false, 2, 0xFFFF, 0xFFFF, 0, 1, 0xFFFE, more},
		{true, 2, 0x8000, 2, 0, 0, 0xFFFF, more | api.ZF | api.PF},
		{true, 2, 0x8000, 0xFFFF, 0, 0x8000, 0, more | api.SF | api.PF},
		{true, 2, 0x4000, 0xFFFE, more, 0x8000, 0xFFFF, api.SF | api.PF},
		{false, 4, allBits, allBits, 0, 1, 0xFFFFFFFE, more},
		{false, 4, 0x10000, 0x8000, more, 0x80000000, 0, api.SF | api.PF},
		{false, 4, 0x10000, 0x10000, 0, 0, 1, more | api.ZF | api.PF},
		{true, 4, 0x80000000, 0x80000000, 0, 0, 0x40000000, more | api.ZF | api.PF},
		{true, 4, 0x80000000, 0x7FFFFFFF, 0, 0x80000000, 0xC0000000, more | api.SF | api.PF},
		{true, 4, 0x80000000, allBits, 0, 0x80000000, 0, more | api.SF | api.PF},
		{true, 4, 0x80000000, 1, more, 0x80000000, allBits, api.SF | api.PF},
		{true, 4, allBits, allBits, allBits, 1, 0, allBits &^ named},
		{true, 4, 0, allBits, 0, 0, 0, api.ZF | api.PF},
	} {
		if lo, hi, f, e := Mul(c.signed, c.size, c.a, c.b, c.flags); lo != c.lo || hi != c.hi || f != c.f || e != api.OK {
			t.Errorf("%+v: %#x, %#x, %#x, %d", c, lo, hi, f, e)
		}
	}
}

// divideBytes is P3.3 of bytes by whole numbers without a sign, as quick as all bytes need it.
func divideBytes(n, by int, least, most int) (q, r int, ok bool) {
	if by == 0 {
		return 0, 0, false
	}
	q, r = max(n, -n)/max(by, -by), max(n, -n)%max(by, -by)
	if (n < 0) != (by < 0) {
		q = -q
	}
	if n < 0 {
		r = -r
	}
	return q, r, q >= least && q <= most
}

// P3.1, P3.3: every value of two bytes by every byte.
func TestDivOfAllBytes(t *testing.T) {
	for n := range 1 << 16 {
		for by := range 256 {
			for _, signed := range bothWays {
				dividend, divisor, least, most := n, by, 0, 255
				if signed {
					dividend, divisor, least, most = (n^0x8000)-0x8000, (by^0x80)-0x80, -128, 127
				}
				wantQ, wantR, wantOk := divideBytes(dividend, divisor, least, most)
				if !wantOk {
					wantQ, wantR = 0, 0
				}
				q, r, ok, e := Div(signed, 1, uint32(n%256), uint32(n/256), uint32(by))
				if q != uint32(wantQ&255) || r != uint32(wantR&255) || ok != wantOk || e != api.OK {
					t.Fatalf("%v, %d by %d: %d, %d, %v, %d; want %d, %d, %v, 0", signed, dividend, divisor, q, r, ok, e, wantQ, wantR, wantOk)
				}
			}
		}
	}
}

// P3.1, P3.3: edges of every size, bits above it too.
func TestDivAtEdges(t *testing.T) {
	for _, signed := range bothWays {
		for _, size := range sizes {
			for _, lo := range values() {
				for _, hi := range values() {
					for _, by := range values() {
						checkDiv(t, signed, size, lo, hi, by)
					}
				}
			}
		}
	}
}

// P3.3: quotients that are just a value of the size and just none: at both ends, each divisor times a quotient there, and all that may be left or be too much.
func TestDivAtTheLastQuotients(t *testing.T) {
	for _, signed := range bothWays {
		for _, size := range sizes {
			half := new(big.Int).Rsh(power(size), 1)
			ends := []*big.Int{big.NewInt(0), new(big.Int).Sub(power(size), big.NewInt(1)), power(size)}
			if signed {
				ends = []*big.Int{new(big.Int).Neg(half), new(big.Int).Sub(half, big.NewInt(1)), half}
			}
			for _, by := range values() {
				divisor := read(signed, size, uint64(by))
				for _, end := range ends {
					for _, steps := range []int64{-1, 0, 1} {
						n := new(big.Int).Mul(divisor, new(big.Int).Add(end, big.NewInt(steps)))
						for _, left := range []int64{-1, 0, 1} {
							all := write(2*size, new(big.Int).Add(n, big.NewInt(left)))
							checkDiv(t, signed, size, uint32(all), uint32(all>>(8*size)), by)
						}
					}
				}
			}
		}
	}
}

// P3.3, written out by hand.
func TestDivByHand(t *testing.T) {
	for _, c := range []struct {
		signed     bool
		size       int
		lo, hi, by uint32
		q, r       uint32
		ok         bool
	}{
		{false, 1, 7, 0, 2, 3, 1, true},
		{false, 1, 255, 1, 2, 255, 1, true},
		{false, 1, 0, 2, 2, 0, 0, false},
		{false, 1, 255, 254, 255, 255, 254, true},
		{false, 1, 0, 255, 255, 0, 0, false},
		{false, 1, 7, 0, 0x100, 0, 0, false},
		{false, 1, 0x107, 0x300, 0x502, 3, 1, true},
		{true, 1, 7, 0, 2, 3, 1, true},
		{true, 1, 249, 255, 2, 253, 255, true},
		{true, 1, 7, 0, 254, 253, 1, true},
		{true, 1, 249, 255, 254, 3, 255, true},
		{true, 1, 127, 0, 1, 127, 0, true},
		{true, 1, 128, 0, 1, 0, 0, false},
		{true, 1, 128, 255, 1, 128, 0, true},
		{true, 1, 127, 255, 1, 0, 0, false},
		{true, 1, 128, 255, 255, 0, 0, false},
		{true, 1, 128, 0, 255, 128, 0, true},
		{true, 1, 129, 0, 255, 0, 0, false},
		{true, 1, 0xFF, 0xFE, 2, 128, 255, true},
		{true, 1, 0xFE, 0xFE, 2, 0, 0, false},
		{true, 1, 0, 0x80, 0x80, 0, 0, false},
		{false, 2, 0xFFFF, 0, 0x10, 0xFFF, 15, true},
		{false, 2, 0, 1, 1, 0, 0, false},
		{true, 2, 0x8000, 0xFFFF, 1, 0x8000, 0, true},
		{true, 2, 0x8000, 0xFFFF, 0xFFFF, 0, 0, false},
		{true, 2, 0, 0x8000, 0xFFFF, 0, 0, false},
		{true, 2, 0xFFF9, 0xFFFF, 2, 0xFFFD, 0xFFFF, true},
		{false, 4, allBits, 0, 1, allBits, 0, true},
		{false, 4, allBits, allBits, allBits, 0, 0, false},
		{false, 4, allBits, 0xFFFFFFFE, allBits, allBits, 0xFFFFFFFE, true},
		{false, 4, 0, 1, 2, 0x80000000, 0, true},
		{false, 4, 5, 0, 0, 0, 0, false},
		{true, 4, 0, 0x80000000, allBits, 0, 0, false},
		{true, 4, 0, 0x80000000, 0x80000000, 0, 0, false},
		{true, 4, 0, 0xC0000000, 0x80000000, 0, 0, false},
		{true, 4, 0x80000000, 0xC0000000, 0x80000000, 0x7FFFFFFF, 0, true},
		{true, 4, 1, 0xC0000000, 0x80000000, 0x7FFFFFFF, 0x80000001, true},
		{true, 4, allBits, 0x7FFFFFFF, allBits, 0, 0, false},
		{true, 4, 0x80000000, allBits, 1, 0x80000000, 0, true},
		{true, 4, 0x80000000, allBits, allBits, 0, 0, false},
		{true, 4, 0x7FFFFFFF, 0, allBits, 0x80000001, 0, true},
		{true, 4, 0xFFFFFFF9, allBits, 2, 0xFFFFFFFD, allBits, true},
	} {
		if q, r, ok, e := Div(c.signed, c.size, c.lo, c.hi, c.by); q != c.q || r != c.r || ok != c.ok || e != api.OK {
			t.Errorf("%+v: %#x, %#x, %v, %d", c, q, r, ok, e)
		}
	}
}

// P3.1: wrong sizes, ahead of a divisor of 0, noughts beside.
func TestOfWrongSizes(t *testing.T) {
	for _, size := range wrongSizes {
		for _, signed := range bothWays {
			if lo, hi, f, e := Mul(signed, size, 7, 9, allBits); lo != 0 || hi != 0 || f != 0 || e != api.ErrSize {
				t.Errorf("Mul, size %d: %d, %d, %d, %d", size, lo, hi, f, e)
			}
			for _, by := range []uint32{0, 3} {
				if q, r, ok, e := Div(signed, size, 7, 0, by); q != 0 || r != 0 || ok || e != api.ErrSize {
					t.Errorf("Div, size %d by %d: %d, %d, %v, %d", size, by, q, r, ok, e)
				}
			}
		}
	}
}

// P3.5: what is divided is the quotient times the divisor, and what is left, which is less, with the sign of what was divided.
func TestDivAndBack(t *testing.T) {
	for _, signed := range bothWays {
		for _, size := range sizes {
			for _, a := range values() {
				for _, by := range values() {
					lo, hi, _, _ := Mul(signed, size, a, by, 0)
					checkBack(t, signed, size, lo, hi, by)
					checkBack(t, signed, size, lo+1, hi, by)
					checkBack(t, signed, size, lo-1, hi, by)
				}
			}
		}
	}
}

func checkBack(t *testing.T, signed bool, size int, lo, hi, by uint32) {
	t.Helper()
	q, r, ok, e := Div(signed, size, lo, hi, by)
	if e != api.OK {
		t.Fatalf("Div(%v, %d, %#x, %#x, %#x): %d", signed, size, lo, hi, by, e)
	}
	if !ok {
		return
	}
	all := power(size).Uint64()
	dividend := read(signed, 2*size, uint64(hi)%all*all+uint64(lo)%all)
	divisor, left := read(signed, size, uint64(by)), read(signed, size, uint64(r))
	back := new(big.Int).Mul(read(signed, size, uint64(q)), divisor)
	back.Add(back, left)
	if back.Cmp(dividend) != 0 || left.CmpAbs(divisor) >= 0 || left.Sign() != 0 && left.Sign() != dividend.Sign() {
		t.Fatalf("Div(%v, %d, %#x, %#x, %#x) = %#x, %#x: back %v, not %v", signed, size, lo, hi, by, q, r, back, dividend)
	}
}

// P3.5: a product of two values that is divided by one of them is the other one, where that may be divided by.
func TestMulAndDiv(t *testing.T) {
	for _, signed := range bothWays {
		for _, size := range sizes {
			for _, a := range values() {
				for _, b := range values() {
					lo, hi, _, _ := Mul(signed, size, a, b, 0)
					same := uint32(write(size, read(false, size, uint64(a))))
					by := write(size, read(false, size, uint64(b)))
					if q, r, ok, _ := Div(signed, size, lo, hi, b); by != 0 && (q != same || r != 0 || !ok) {
						t.Fatalf("%v, %d, %#x times %#x by that: %#x, %#x, %v", signed, size, a, b, q, r, ok)
					}
				}
			}
		}
	}
}
