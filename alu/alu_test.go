package alu

import (
	"testing"

	"drawloom/api"
)

const (
	named   = api.CF | api.PF | api.AF | api.ZF | api.SF | api.OF
	allBits = 0xFFFFFFFF
)

var sizes = []int{1, 2, 4}

var wrongSizes = []int{-1 << 63, -4, -2, -1, 0, 3, 5, 6, 7, 8, 16, 32, 1 << 32, 1<<32 + 1, 1<<63 - 1}

var wrongOps = []int{-1 << 63, -13, -1, 13, 14, 16, 256, 1 << 32, 1<<32 + 1, 1<<63 - 1}

// model is the chapter's P1.3 in whole numbers that nothing is cut off of: numbers below 0 stay below 0, sums stay as great as they are.
type model struct {
	whole int64 // 2 to the power of the size's bits
}

func modelOf(size int) model { return model{int64(1) << (8 * size)} }

func (m model) value(n uint32) int64 { return int64(n) % m.whole }

func (m model) negative(v int64) bool { return v >= m.whole/2 }

func (m model) signed(v int64) int64 {
	if m.negative(v) {
		return v - m.whole
	}
	return v
}

// fold brings a number into 0 to whole - 1.
func (m model) fold(v int64) int64 { return (v%m.whole + m.whole) % m.whole }

func (m model) byResult(r int64, flags uint32) uint32 {
	flags = put(flags, api.ZF, r == 0)
	flags = put(flags, api.SF, m.negative(r))
	ones := 0
	for n := r % 256; n > 0; n /= 2 {
		ones += int(n % 2)
	}
	return put(flags, api.PF, ones%2 == 0)
}

func (m model) sum(a, b, carry int64, flags uint32) (int64, uint32) {
	r := m.fold(a + b + carry)
	flags = put(flags, api.CF, a+b+carry >= m.whole)
	flags = put(flags, api.OF, m.negative(a) == m.negative(b) && m.negative(r) != m.negative(a))
	flags = put(flags, api.AF, a%16+b%16+carry >= 16)
	return r, m.byResult(r, flags)
}

func (m model) difference(a, b, carry int64, flags uint32) (int64, uint32) {
	r := m.fold(a - b - carry)
	flags = put(flags, api.CF, a-b-carry < 0)
	flags = put(flags, api.OF, m.negative(a) != m.negative(b) && m.negative(r) == m.negative(b))
	flags = put(flags, api.AF, a%16-b%16-carry < 0)
	return r, m.byResult(r, flags)
}

// logic goes bit by bit: pick tells a bit of two.
func (m model) logic(a, b int64, flags uint32, pick func(x, y bool) bool) (int64, uint32) {
	r := int64(0)
	for bit := int64(1); bit < m.whole; bit *= 2 {
		if pick(a/bit%2 == 1, b/bit%2 == 1) {
			r += bit
		}
	}
	for _, f := range []uint32{api.CF, api.OF, api.AF} {
		flags = put(flags, f, false)
	}
	return r, m.byResult(r, flags)
}

func (m model) do(op int, n, k, flags uint32) (uint32, uint32) {
	a, b := m.value(n), m.value(k)
	carry := int64(flags % 2)
	r, f := a, flags
	switch op {
	case api.Add:
		r, f = m.sum(a, b, 0, flags)
	case api.Adc:
		r, f = m.sum(a, b, carry, flags)
	case api.Sub:
		r, f = m.difference(a, b, 0, flags)
	case api.Sbb:
		r, f = m.difference(a, b, carry, flags)
	case api.Cmp:
		_, f = m.difference(a, b, 0, flags)
	case api.Or:
		r, f = m.logic(a, b, flags, func(x, y bool) bool { return x || y })
	case api.And:
		r, f = m.logic(a, b, flags, func(x, y bool) bool { return x && y })
	case api.Xor:
		r, f = m.logic(a, b, flags, func(x, y bool) bool { return x != y })
	case api.Test:
		_, f = m.logic(a, b, flags, func(x, y bool) bool { return x && y })
	case api.Inc:
		r, f = m.sum(a, 1, 0, flags)
		f = put(f, api.CF, carry == 1)
	case api.Dec:
		r, f = m.difference(a, 1, 0, flags)
		f = put(f, api.CF, carry == 1)
	case api.Neg:
		r, f = m.difference(0, a, 0, flags)
	case api.Not:
		r = m.whole - 1 - a
	}
	return uint32(r), f
}

func put(flags, flag uint32, set bool) uint32 {
	if set {
		return flags | flag
	}
	return flags &^ flag
}

// edges are the values about 0, the lowest four bits, the sign and the greatest one of each size.
func edges() []uint32 {
	var out []uint32
	for _, middle := range []uint32{0, 0xF, 0x10, 0x7F, 0x80, 0xFF, 0x100, 0x7FFF, 0x8000, 0xFFFF, 0x10000, 0x7FFFFFFF, 0x80000000} {
		out = append(out, middle-1, middle, middle+1)
	}
	return append(out, 0x55555555, 0xAAAAAAAA, 0x12345678, 0x9ABCDEF0, 0x00FF00FF, 0xFFFF0000, 0xFFFFFF00, 0x1FF, 0x38000)
}

func checkDo(t *testing.T, op, size int, a, b, flags uint32) {
	t.Helper()
	r, f, e := Do(op, size, a, b, flags)
	wantR, wantF := modelOf(size).do(op, a, b, flags)
	if r != wantR || f != wantF || e != api.OK {
		t.Fatalf("Do(%d, %d, %#x, %#x, %#x) = %#x, %#x, %d; want %#x, %#x, 0", op, size, a, b, flags, r, f, e, wantR, wantF)
	}
}

// P1.1: a wrong size is ErrSize ahead of a wrong op, and beside an error stand noughts.
func TestWrongSize(t *testing.T) {
	for _, size := range wrongSizes {
		for _, op := range append([]int{api.Add, api.Sub, api.Cmp, api.Not}, wrongOps...) {
			if r, f, e := Do(op, size, 7, 9, allBits); r != 0 || f != 0 || e != api.ErrSize {
				t.Errorf("Do(%d, %d) = %#x, %#x, %d; want 0, 0, ErrSize", op, size, r, f, e)
			}
		}
		if f, e := Flags(size, 7, allBits); f != 0 || e != api.ErrSize {
			t.Errorf("Flags(%d) = %#x, %d; want 0, ErrSize", size, f, e)
		}
	}
}

// P1.1: a wrong op of a right size is ErrOp.
func TestWrongOp(t *testing.T) {
	for _, op := range wrongOps {
		for _, size := range sizes {
			if r, f, e := Do(op, size, 7, 9, allBits); r != 0 || f != 0 || e != api.ErrOp {
				t.Errorf("Do(%d, %d) = %#x, %#x, %d; want 0, 0, ErrOp", op, size, r, f, e)
			}
		}
	}
}

// P1.1: the errors' numbers are those of the chapter, and so are the operations'.
func TestNumbers(t *testing.T) {
	if api.OK != 0 || api.ErrSize != 2 || api.ErrOp != 3 {
		t.Errorf("errors: %d, %d, %d", api.OK, api.ErrSize, api.ErrOp)
	}
	ops := []int{api.Add, api.Or, api.Adc, api.Sbb, api.And, api.Sub, api.Xor, api.Cmp, api.Test, api.Inc, api.Dec, api.Neg, api.Not}
	for i, op := range ops {
		if i != op {
			t.Errorf("operation %d has the number %d", i, op)
		}
	}
}

// P1.1: bits above the size, of a, b and a result, are not looked at, and none are told.
func TestBitsAboveTheSize(t *testing.T) {
	for _, size := range []int{1, 2} {
		above := uint32(allBits) << (8 * size)
		for op := api.Add; op <= api.Not; op++ {
			for _, a := range edges() {
				for _, b := range edges() {
					r, f, _ := Do(op, size, a&^above, b&^above, api.CF)
					r2, f2, _ := Do(op, size, a|above, b|above, api.CF)
					if r != r2 || f != f2 || r&above != 0 {
						t.Fatalf("Do(%d, %d, %#x, %#x): %#x, %#x; with bits above %#x, %#x", op, size, a, b, r, f, r2, f2)
					}
				}
			}
		}
		for _, a := range edges() {
			f, _ := Flags(size, a&^above, 0)
			if f2, _ := Flags(size, a|above, 0); f != f2 {
				t.Errorf("Flags(%d, %#x): %#x; with bits above %#x", size, a, f, f2)
			}
		}
	}
}

// P1.1: flags that no promise names are as they were, set or not, each of them alone too; and they change no result.
func TestFlagsNotNamed(t *testing.T) {
	words := []uint32{0, allBits &^ uint32(named)}
	for bit := uint32(1); bit != 0; bit <<= 1 {
		if bit&named == 0 {
			words = append(words, bit)
		}
	}
	for op := api.Add; op <= api.Not; op++ {
		for _, size := range sizes {
			r0, f0, _ := Do(op, size, 0x89ABCDEF, 0x98765432, 0)
			for _, word := range words {
				r, f, e := Do(op, size, 0x89ABCDEF, 0x98765432, word)
				if r != r0 || f != f0|word || e != api.OK {
					t.Errorf("Do(%d, %d) with %#x = %#x, %#x, %d; want %#x, %#x", op, size, word, r, f, e, r0, f0|word)
				}
			}
		}
	}
}

// P1.1, P1.2: Flags leaves CF, AF, OF and all else that it does not name, and clears what does not hold.
func TestFlagsLeavesTheRest(t *testing.T) {
	for _, c := range []struct {
		size          int
		result, flags uint32
		want          uint32
	}{
		{1, 0, 0, api.ZF | api.PF},
		{1, 0, allBits, allBits &^ uint32(api.SF)},
		{1, 1, allBits, allBits &^ uint32(api.ZF|api.SF|api.PF)},
		{1, 3, 0, api.PF},
		{1, 0x7F, 0, 0},
		{1, 0x80, 0, api.SF},
		{1, 0xFF, 0, api.SF | api.PF},
		{1, 0x100, 0, api.ZF | api.PF},
		{2, 0x80, 0, 0},
		{2, 0x100, 0, api.PF},
		{2, 0x8000, 0, api.SF | api.PF},
		{2, 0x7FFF, 0, api.PF},
		{2, 0x10000, 0, api.ZF | api.PF},
		{4, 0x8000, 0, api.PF},
		{4, 0x80000000, 0, api.SF | api.PF},
		{4, 0x80000001, 0, api.SF},
		{4, allBits, api.ZF, api.SF | api.PF},
		{4, 2, api.CF | api.AF | api.OF | api.DF, api.CF | api.AF | api.OF | api.DF},
		{4, 0, api.CF | api.AF | api.OF | api.SF, api.CF | api.AF | api.OF | api.ZF | api.PF},
	} {
		if f, e := Flags(c.size, c.result, c.flags); f != c.want || e != api.OK {
			t.Errorf("Flags(%d, %#x, %#x) = %#x, %d; want %#x", c.size, c.result, c.flags, f, e, c.want)
		}
	}
}

// P1.2: at all values of sizes 1 and 2, and at the edges of 4.
func TestFlagsByResult(t *testing.T) {
	check := func(size int, result uint32) {
		t.Helper()
		m := modelOf(size)
		for _, flags := range []uint32{0, allBits} {
			want := m.byResult(m.value(result), flags)
			if f, e := Flags(size, result, flags); f != want || e != api.OK {
				t.Fatalf("Flags(%d, %#x, %#x) = %#x, %d; want %#x", size, result, flags, f, e, want)
			}
		}
	}
	for result := range uint32(0x10000) {
		check(1, result)
		check(2, result)
		check(4, result)
	}
	for _, result := range edges() {
		for _, size := range sizes {
			check(size, result)
		}
	}
}

// P1.3: the chapter's examples, and edges written out by hand.
func TestDoByHand(t *testing.T) {
	const keep = api.IF | api.DF
	for _, c := range []struct {
		op, size    int
		a, b, flags uint32
		result, f   uint32
	}{
		{api.Add, 1, 255, 1, 0, 0, api.CF | api.PF | api.AF | api.ZF},
		{api.Add, 1, 127, 1, 0, 128, api.AF | api.SF | api.OF},
		{api.Add, 1, 128, 128, 0, 0, api.CF | api.PF | api.ZF | api.OF},
		{api.Add, 1, 15, 1, keep, 16, api.AF | keep},
		{api.Add, 1, 14, 1, api.CF, 15, api.PF},
		{api.Add, 2, 65535, 1, 0, 0, api.CF | api.PF | api.AF | api.ZF},
		{api.Add, 2, 32767, 1, 0, 32768, api.PF | api.AF | api.SF | api.OF},
		{api.Add, 4, 4294967295, 1, 0, 0, api.CF | api.PF | api.AF | api.ZF},
		{api.Add, 4, 2147483648, 2147483648, 0, 0, api.CF | api.PF | api.ZF | api.OF},
		{api.Adc, 1, 15, 0, api.CF, 16, api.AF},
		{api.Adc, 1, 15, 0, 0, 15, api.PF},
		{api.Adc, 1, 255, 255, api.CF, 255, api.CF | api.PF | api.AF | api.SF},
		{api.Adc, 1, 127, 0, api.CF, 128, api.AF | api.SF | api.OF},
		{api.Adc, 4, 4294967295, 4294967295, api.CF, 4294967295, api.CF | api.PF | api.AF | api.SF},
		{api.Adc, 4, 4294967295, 0, api.CF, 0, api.CF | api.PF | api.AF | api.ZF},
		{api.Sub, 4, 3, 5, 0, 4294967294, api.CF | api.AF | api.SF},
		{api.Sub, 1, 128, 1, 0, 127, api.AF | api.OF},
		{api.Sub, 1, 127, 255, 0, 128, api.CF | api.SF | api.OF},
		{api.Sub, 1, 16, 1, api.CF, 15, api.PF | api.AF},
		{api.Sub, 2, 0, 32768, 0, 32768, api.CF | api.PF | api.SF | api.OF},
		{api.Sbb, 1, 0, 255, api.CF, 0, api.CF | api.PF | api.AF | api.ZF},
		{api.Sbb, 1, 16, 15, api.CF, 0, api.PF | api.AF | api.ZF},
		{api.Sbb, 1, 128, 127, api.CF, 0, api.PF | api.AF | api.ZF | api.OF},
		{api.Sbb, 4, 0, 4294967295, api.CF, 0, api.CF | api.PF | api.AF | api.ZF},
		{api.Sbb, 4, 4294967295, 4294967295, api.CF, 4294967295, api.CF | api.PF | api.AF | api.SF},
		{api.Sbb, 4, 5, 3, 0, 2, 0},
		{api.Cmp, 2, 7, 7, 0, 7, api.PF | api.ZF},
		{api.Cmp, 2, 0x10000, 1, api.CF, 0, api.CF | api.PF | api.AF | api.SF},
		{api.Or, 1, 0x1F0, 0x0F, api.CF | api.OF | api.AF | keep, 255, api.PF | api.SF | keep},
		{api.And, 4, 12, 10, api.CF | api.OF | api.AF, 8, 0},
		{api.Xor, 2, 0x8001, 0x0001, api.ZF, 0x8000, api.PF | api.SF},
		{api.Test, 4, 12, 10, api.CF | api.OF | api.AF, 12, 0},
		{api.Test, 1, 0x80, 0x7F, 0, 0x80, api.PF | api.ZF},
		{api.Inc, 4, 4294967295, 0, 0, 0, api.PF | api.AF | api.ZF},
		{api.Inc, 4, 4294967295, 0, api.CF, 0, api.CF | api.PF | api.AF | api.ZF},
		{api.Inc, 1, 127, 99, api.CF, 128, api.CF | api.AF | api.SF | api.OF},
		{api.Dec, 1, 0, 0, 0, 255, api.PF | api.AF | api.SF},
		{api.Dec, 1, 0, 0, api.CF, 255, api.CF | api.PF | api.AF | api.SF},
		{api.Dec, 2, 32768, 99, 0, 32767, api.PF | api.AF | api.OF},
		{api.Neg, 1, 128, 0, 0, 128, api.CF | api.SF | api.OF},
		{api.Neg, 4, 0, 5, api.CF | api.AF | api.OF, 0, api.PF | api.ZF},
		{api.Neg, 2, 1, 0, api.CF, 65535, api.CF | api.PF | api.AF | api.SF},
		{api.Not, 2, 0x10001, 0, api.CF, 65534, api.CF},
		{api.Not, 4, 0, 0, allBits, allBits, allBits},
		{api.Not, 1, 255, 0, 0, 0, 0},
	} {
		if r, f, e := Do(c.op, c.size, c.a, c.b, c.flags); r != c.result || f != c.f || e != api.OK {
			t.Errorf("Do(%d, %d, %#x, %#x, %#x) = %#x, %#x, %d; want %#x, %#x", c.op, c.size, c.a, c.b, c.flags, r, f, e, c.result, c.f)
		}
	}
}

// P1.3: each operation, at all pairs of values of size 1, CF set and not set.
func TestDoAllBytes(t *testing.T) {
	for op := api.Add; op <= api.Not; op++ {
		for a := range uint32(256) {
			for b := range uint32(256) {
				checkDo(t, op, 1, a, b, 0)
				checkDo(t, op, 1, a, b, allBits)
			}
		}
	}
}

// P1.3: each operation and size, at all pairs of edges, under flags of many kinds.
func TestDoEdges(t *testing.T) {
	values := edges()
	for op := api.Add; op <= api.Not; op++ {
		for _, size := range sizes {
			for _, a := range values {
				for _, b := range values {
					for _, flags := range []uint32{0, api.CF, allBits, allBits &^ uint32(api.CF), api.OF | api.AF, api.ZF | api.SF | api.PF} {
						checkDo(t, op, size, a, b, flags)
					}
				}
			}
		}
	}
}

// P1.4: what is added and then subtracted is there again, with a carry too.
func TestAddedAndSubtracted(t *testing.T) {
	for _, size := range sizes {
		m := modelOf(size)
		for _, a := range edges() {
			for _, b := range edges() {
				for _, pair := range [][2]int{{api.Add, api.Sub}, {api.Adc, api.Sbb}} {
					sum, _, _ := Do(pair[0], size, a, b, api.CF)
					if back, _, _ := Do(pair[1], size, sum, b, api.CF); int64(back) != m.value(a) {
						t.Fatalf("size %d: %#x and %#x added are %#x, subtracted again %#x", size, a, b, sum, back)
					}
				}
			}
		}
	}
}

// P1.4: Sub and Cmp order two values: by CF as they are, by OF and SF signed.
func TestSubOrders(t *testing.T) {
	for _, size := range sizes {
		m := modelOf(size)
		for _, a := range edges() {
			for _, b := range edges() {
				for _, op := range []int{api.Sub, api.Cmp} {
					_, f, _ := Do(op, size, a, b, allBits)
					below := f&api.CF != 0
					less := f&api.OF != 0 != (f&api.SF != 0)
					if below != (m.value(a) < m.value(b)) || less != (m.signed(m.value(a)) < m.signed(m.value(b))) {
						t.Fatalf("Do(%d, %d, %#x, %#x): flags %#x: below %v, less %v", op, size, a, b, f, below, less)
					}
				}
			}
		}
	}
}
