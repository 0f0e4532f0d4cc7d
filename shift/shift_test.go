package shift

import (
	"testing"

	"drawloom/api"
)

const (
	allBits = 0xFFFFFFFF
	marks   = api.CF | api.OF
	named   = marks | api.ZF | api.SF | api.PF | api.AF
)

var sizes = []int{1, 2, 4}

var doubleSizes = []int{2, 4}

var wrongSizes = []int{-1 << 63, -4, -2, -1, 0, 3, 5, 6, 7, 8, 16, 32, 1 << 32, 1<<32 + 1, 1<<32 + 4, 1<<63 - 1}

var wrongOps = []int{-1 << 63, -8, -1, 8, 9, 15, 16, 256, 1 << 32, 1<<32 + 1, 1<<63 - 1}

var flagWords = []uint32{0, allBits, api.CF, allBits &^ api.CF, api.One | api.IF, named, allBits &^ named}

// row is a value's bits, the lowest one first. The model moves one place at a time, as often as the count says.
type row []bool

func rowOf(n uint32, size int) row {
	out := make(row, 8*size)
	for i := range out {
		out[i] = n%2 == 1
		n /= 2
	}
	return out
}

func (r row) number() uint32 {
	n := uint32(0)
	for i := len(r) - 1; i >= 0; i-- {
		n *= 2
		if r[i] {
			n++
		}
	}
	return n
}

func (r row) top() bool { return r[len(r)-1] }

func (r row) second() bool { return r[len(r)-2] }

// up moves each bit one place higher: in comes at the lowest, the top is told.
func (r row) up(in bool) bool {
	out := r.top()
	for i := len(r) - 1; i > 0; i-- {
		r[i] = r[i-1]
	}
	r[0] = in
	return out
}

// down moves each bit one place lower: in comes at the top, the lowest is told.
func (r row) down(in bool) bool {
	out := r[0]
	for i := 1; i < len(r); i++ {
		r[i-1] = r[i]
	}
	r[len(r)-1] = in
	return out
}

func put(flags, flag uint32, set bool) uint32 {
	if set {
		return flags | flag
	}
	return flags &^ flag
}

func (r row) byResult(flags uint32) uint32 {
	zero, even := true, true
	for i, b := range r {
		zero = zero && !b
		if i < 8 {
			even = even != b
		}
	}
	flags = put(flags, api.ZF, zero)
	flags = put(flags, api.SF, r.top())
	flags = put(flags, api.PF, even)
	return put(flags, api.AF, false)
}

func (r row) once(op int, carry bool) bool {
	switch op {
	case api.Rol:
		return r.up(r.top())
	case api.Ror:
		return r.down(r[0])
	case api.Rcl:
		return r.up(carry)
	case api.Rcr:
		return r.down(carry)
	case api.Shl, api.Sal:
		return r.up(false)
	case api.Shr:
		return r.down(false)
	}
	return r.down(r.top())
}

func modelDo(op, size int, a, count, flags uint32) (uint32, uint32) {
	r := rowOf(a, size)
	topBefore := r.top()
	if count%32 == 0 {
		return r.number(), flags
	}
	carry := flags%2 == 1
	for range count % 32 {
		carry = r.once(op, carry)
	}
	over := false
	switch op {
	case api.Rol, api.Rcl, api.Shl, api.Sal:
		over = carry != r.top()
	case api.Ror, api.Rcr:
		over = r.top() != r.second()
	case api.Shr:
		over = topBefore
	}
	flags = put(put(flags, api.CF, carry), api.OF, over)
	if op >= api.Shl {
		flags = r.byResult(flags)
	}
	return r.number(), flags
}

func modelDouble(left bool, size int, a, b, count, flags uint32) (uint32, uint32) {
	r, in := rowOf(a, size), rowOf(b, size)
	topBefore := r.top()
	if count%32 == 0 {
		return r.number(), flags
	}
	carry := false
	for range count % 32 {
		if left {
			carry = r.up(in.up(in.top())) // b is turned, so that it comes in again behind itself
		} else {
			carry = r.down(in.down(in[0]))
		}
	}
	flags = put(put(flags, api.CF, carry), api.OF, topBefore != r.top())
	return r.number(), r.byResult(flags)
}

// values have the top, the second and the lowest bit of each size set and not set, and bits above the size.
func values() []uint32 {
	var out []uint32
	for _, middle := range []uint32{0, 0x40, 0x80, 0xC0, 0x100, 0x4000, 0x8000, 0xC000, 0x10000, 0x40000000, 0x80000000, 0xC0000000} {
		out = append(out, middle-1, middle, middle+1)
	}
	return append(out, 0x55555555, 0xAAAAAAAA, 0x12345678, 0x9ABCDEF0, 0x00FF00FF, 0xFFFF0000, 0xFFFFFF00, 0x1FF, 0x38000)
}

// counts are all of 0 to 31, and numbers of which the lowest five bits alone count.
func counts() []uint32 {
	var out []uint32
	for n := range uint32(100) {
		out = append(out, n)
	}
	return append(out, 255, 256, 257, 0x8000, 0x80000001, 0xFFFFFFE0, 0xFFFFFFE9, allBits)
}

func checkDo(t *testing.T, op, size int, a, count, flags uint32) {
	t.Helper()
	r, f, e := Do(op, size, a, count, flags)
	wantR, wantF := modelDo(op, size, a, count, flags)
	if r != wantR || f != wantF || e != api.OK {
		t.Fatalf("Do(%d, %d, %#x, %d, %#x) = %#x, %#x, %d; want %#x, %#x, 0", op, size, a, count, flags, r, f, e, wantR, wantF)
	}
}

func checkDouble(t *testing.T, left bool, size int, a, b, count, flags uint32) {
	t.Helper()
	r, f, e := Double(left, size, a, b, count, flags)
	wantR, wantF := modelDouble(left, size, a, b, count, flags)
	if r != wantR || f != wantF || e != api.OK {
		t.Fatalf("Double(%v, %d, %#x, %#x, %d, %#x) = %#x, %#x, %d; want %#x, %#x, 0", left, size, a, b, count, flags, r, f, e, wantR, wantF)
	}
}

// P2.1, P2.2: every byte, by every count, with CF ahead and without.
func TestDoOfAllBytes(t *testing.T) {
	for op := api.Rol; op <= api.Sar; op++ {
		for a := range uint32(256) {
			for count := range uint32(32) {
				checkDo(t, op, 1, a, count, 0)
				checkDo(t, op, 1, a, count, api.CF)
			}
		}
	}
}

// P2.1, P2.2: edges of every size, counts of 32 and more among them, and flags that are not named.
func TestDoAtEdges(t *testing.T) {
	for op := api.Rol; op <= api.Sar; op++ {
		for _, size := range sizes {
			for _, a := range values() {
				for _, count := range counts() {
					for _, flags := range flagWords {
						checkDo(t, op, size, a, count, flags)
					}
				}
			}
		}
	}
}

// P2.2, written out by hand, so that a fault of the model's would show.
func TestDoByHand(t *testing.T) {
	for _, c := range []struct {
		op, size        int
		a, count, flags uint32
		r, f            uint32
	}{
		{api.Rol, 1, 129, 1, 0, 3, api.CF | api.OF},
		{api.Rol, 1, 0x81, 8, 0, 0x81, api.CF},
		{api.Rol, 1, 0x80, 8, api.CF, 0x80, api.OF},
		{api.Rol, 1, 0x12, 4, 0, 0x21, api.CF | api.OF},
		{api.Rol, 2, 0x1234, 16, api.CF | api.OF | api.ZF, 0x1234, api.ZF},
		{api.Rol, 4, 0x12345678, 8, 0, 0x34567812, 0},
		{api.Ror, 1, 1, 8, 0, 1, 0},
		{api.Ror, 1, 1, 1, 0, 0x80, api.CF | api.OF},
		{api.Ror, 1, 3, 2, 0, 0xC0, api.CF},
		{api.Ror, 2, 1, 17, 0, 0x8000, api.CF | api.OF},
		{api.Ror, 4, 0x12345678, 8, 0, 0x78123456, api.OF},
		{api.Rcl, 1, 0x80, 1, api.CF, 1, api.CF | api.OF},
		{api.Rcl, 1, 0x80, 9, 0, 0x80, api.OF},
		{api.Rcl, 1, 0x80, 9, api.CF, 0x80, api.CF},
		{api.Rcl, 1, 0x80, 18, api.CF, 0x80, api.CF},
		{api.Rcl, 1, 0x80, 27, 0, 0x80, api.OF},
		{api.Rcl, 2, 0x8000, 17, api.CF | api.OF, 0x8000, api.CF},
		{api.Rcl, 4, 0x80000000, 31, api.CF, 0x60000000, 0},
		{api.Rcr, 1, 1, 1, 0, 0, api.CF},
		{api.Rcr, 1, 1, 9, 0, 1, 0},
		{api.Rcr, 1, 0x40, 18, api.CF, 0x40, api.CF | api.OF},
		{api.Rcr, 2, 0, 1, api.CF, 0x8000, api.OF},
		{api.Rcr, 2, 0x4001, 17, 0, 0x4001, api.OF},
		{api.Rcr, 4, 0, 31, api.CF, 2, 0},
		{api.Shl, 1, 192, 1, 0, 128, api.CF | api.SF},
		{api.Shl, 1, 1, 8, 0, 0, api.CF | api.OF | api.ZF | api.PF},
		{api.Shl, 1, 1, 9, api.AF | api.CF, 0, api.ZF | api.PF},
		{api.Sal, 2, 0x4000, 1, 0, 0x8000, api.OF | api.SF | api.PF},
		{api.Sal, 2, 1, 16, 0, 0, api.CF | api.OF | api.ZF | api.PF},
		{api.Sal, 2, 0xFFFF, 17, 0, 0, api.ZF | api.PF},
		{api.Shl, 4, 3, 31, 0, 0x80000000, api.CF | api.SF | api.PF},
		{api.Shr, 1, 0x80, 8, 0, 0, api.CF | api.OF | api.ZF | api.PF},
		{api.Shr, 1, 0x80, 9, 0, 0, api.OF | api.ZF | api.PF},
		{api.Shr, 2, 0x10180, 8, 0, 1, api.CF},
		{api.Shr, 4, 1 << 31, 31, 0, 1, api.OF},
		{api.Sar, 1, 0x81, 1, api.OF, 0xC0, api.CF | api.SF | api.PF},
		{api.Sar, 1, 0x7F, 9, api.CF, 0, api.ZF | api.PF},
		{api.Sar, 2, 32768, 20, 0, 65535, api.CF | api.PF | api.SF},
		{api.Sar, 4, 0x80000000, 31, api.AF, allBits, api.SF | api.PF},
		{api.Sar, 4, 0x40000000, 31, 0, 0, api.CF | api.ZF | api.PF},
	} {
		if r, f, e := Do(c.op, c.size, c.a, c.count, c.flags); r != c.r || f != c.f || e != api.OK {
			t.Errorf("%+v: %#x, %#x, %d", c, r, f, e)
		}
	}
}

// P2.1: a count of 0 leaves all flags, and cuts the value alone.
func TestDoByNought(t *testing.T) {
	cut := map[int]uint32{1: 0xA5, 2: 0x84A5, 4: 0xF3C284A5}
	for op := api.Rol; op <= api.Sar; op++ {
		for _, size := range sizes {
			for _, count := range []uint32{0, 32, 64, 0xFFFFFFE0} {
				for _, flags := range flagWords {
					if r, f, e := Do(op, size, 0xF3C284A5, count, flags); r != cut[size] || f != flags || e != api.OK {
						t.Fatalf("op %d, size %d, count %d, flags %#x: %#x, %#x, %d", op, size, count, flags, r, f, e)
					}
				}
			}
		}
	}
}

// P2.1: sizes ahead of operations, both ahead of a count of 0, noughts beside.
func TestDoOfWrongInputs(t *testing.T) {
	for _, count := range []uint32{0, 1, 31, 32} {
		for _, size := range wrongSizes {
			for _, op := range append([]int{0, 3, 7}, wrongOps...) {
				if r, f, e := Do(op, size, allBits, count, allBits); r != 0 || f != 0 || e != api.ErrSize {
					t.Errorf("op %d, size %d: %d, %d, %d", op, size, r, f, e)
				}
			}
		}
		for _, size := range sizes {
			for _, op := range wrongOps {
				if r, f, e := Do(op, size, allBits, count, allBits); r != 0 || f != 0 || e != api.ErrOp {
					t.Errorf("op %d, size %d: %d, %d, %d", op, size, r, f, e)
				}
			}
		}
	}
}

// P2.1, P2.3: edges of both sizes and both ways.
func TestDoubleAtEdges(t *testing.T) {
	for _, left := range []bool{true, false} {
		for _, size := range doubleSizes {
			for _, a := range values() {
				for _, b := range values() {
					for _, count := range counts() {
						checkDouble(t, left, size, a, b, count, 0)
						checkDouble(t, left, size, a, b, count, allBits)
					}
				}
			}
		}
	}
	for _, flags := range flagWords {
		for count := range uint32(64) {
			checkDouble(t, true, 2, 0x92341, 0x7ABCD, count, flags)
			checkDouble(t, false, 4, 0x12345678, 0x9ABCDEF0, count, flags)
		}
	}
}

// P2.3, written out by hand.
func TestDoubleByHand(t *testing.T) {
	for _, c := range []struct {
		left               bool
		size               int
		a, b, count, flags uint32
		r, f               uint32
	}{
		{true, 2, 0x1234, 0xABCD, 4, api.AF, 0x234A, api.CF},
		{true, 2, 0x1235, 0xABCD, 16, 0, 0xABCD, api.CF | api.OF | api.SF},
		{true, 2, 0x1234, 0x2BCD, 17, api.CF, 0x579A, api.PF},
		{true, 2, 0x1234, 0xABCD, 20, 0, 0xBCDA, api.OF | api.SF},
		{true, 2, 0, 0x0002, 31, 0, 0x0001, api.CF},
		{true, 4, 0x80000000, 0, 1, 0, 0, api.CF | api.OF | api.ZF | api.PF},
		{true, 4, 0x12345678, 0x9ABCDEF0, 8, 0, 0x3456789A, api.PF},
		{true, 4, 2, 1, 31, 0, 0, api.CF | api.ZF | api.PF},
		{false, 2, 0x1234, 0xABCD, 4, 0, 0xD123, api.OF | api.SF},
		{false, 2, 0x9234, 0xABCD, 16, 0, 0xABCD, api.CF | api.SF},
		{false, 2, 0x9234, 0xABCD, 17, 0, 0xD5E6, api.CF | api.SF},
		{false, 2, 0x1234, 0xABCD, 20, 0, 0xDABC, api.CF | api.OF | api.SF},
		{false, 4, 0x12345678, 0x9ABCDEF0, 8, 0, 0xF0123456, api.OF | api.SF | api.PF},
		{false, 4, 0x40000000, 0, 31, api.AF, 0, api.CF | api.ZF | api.PF},
	} {
		if r, f, e := Double(c.left, c.size, c.a, c.b, c.count, c.flags); r != c.r || f != c.f || e != api.OK {
			t.Errorf("%+v: %#x, %#x, %d", c, r, f, e)
		}
	}
}

// P2.1: a count of 0 leaves all flags.
func TestDoubleByNought(t *testing.T) {
	for _, left := range []bool{true, false} {
		for _, count := range []uint32{0, 32, 0xFFFFFFE0} {
			for _, flags := range flagWords {
				if r, f, e := Double(left, 2, 0xF3C284A5, 7, count, flags); r != 0x84A5 || f != flags || e != api.OK {
					t.Fatalf("left %v, count %d, flags %#x: %#x, %#x, %d", left, count, flags, r, f, e)
				}
				if r, f, e := Double(left, 4, 0xF3C284A5, 7, count, flags); r != 0xF3C284A5 || f != flags || e != api.OK {
					t.Fatalf("left %v, count %d, flags %#x: %#x, %#x, %d", left, count, flags, r, f, e)
				}
			}
		}
	}
}

// P2.1: of Double a size of 1 is wrong too.
func TestDoubleOfWrongInputs(t *testing.T) {
	for _, left := range []bool{true, false} {
		for _, count := range []uint32{0, 1, 31, 32} {
			for _, size := range append([]int{1}, wrongSizes...) {
				if r, f, e := Double(left, size, allBits, allBits, count, allBits); r != 0 || f != 0 || e != api.ErrSize {
					t.Errorf("left %v, size %d: %d, %d, %d", left, size, r, f, e)
				}
			}
		}
	}
}

func ask(t *testing.T, op, size int, a, count, flags uint32) (uint32, uint32) {
	t.Helper()
	r, f, e := Do(op, size, a, count, flags)
	if e != api.OK {
		t.Fatalf("Do(%d, %d, %#x, %d, %#x): %d", op, size, a, count, flags, e)
	}
	return r, f
}

// P2.4: turned there and back, a value is there again, and so is CF where it takes part.
func TestThereAndBack(t *testing.T) {
	for _, size := range sizes {
		for _, a := range values() {
			same, _ := ask(t, api.Rol, size, a, 0, 0)
			for count := range uint32(64) {
				for _, carry := range []uint32{0, api.CF} {
					for _, ops := range [][2]int{{api.Rol, api.Ror}, {api.Ror, api.Rol}, {api.Rcl, api.Rcr}, {api.Rcr, api.Rcl}} {
						r, f := ask(t, ops[0], size, a, count, carry)
						r, f = ask(t, ops[1], size, r, count, f)
						if r != same || ops[0] >= api.Rcl && f&api.CF != carry {
							t.Fatalf("ops %v, size %d, %#x, count %d, CF %d: %#x, %#x", ops, size, a, count, carry, r, f)
						}
					}
				}
			}
		}
	}
}

// P2.4: two shifts are one by the sum, CF too where the second one is a shift at all.
func TestSumOfCounts(t *testing.T) {
	for op := api.Rol; op <= api.Sar; op++ {
		for _, size := range sizes {
			for _, a := range values() {
				for n := range uint32(32) {
					for m := range 32 - n {
						r, f := ask(t, op, size, a, n, api.CF)
						r, f = ask(t, op, size, r, m, f)
						whole, g := ask(t, op, size, a, n+m, api.CF)
						if r != whole || m != 0 && f&api.CF != g&api.CF {
							t.Fatalf("op %d, size %d, %#x, counts %d and %d: %#x, %#x; at once %#x, %#x", op, size, a, n, m, r, f, whole, g)
						}
					}
				}
			}
		}
	}
}
