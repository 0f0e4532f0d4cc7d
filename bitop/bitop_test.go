package bitop

import (
	"testing"

	"drawloom/api"
)

const (
	allBits = 0xFFFFFFFF
	asked   = api.OF | api.CF | api.ZF | api.SF | api.PF
)

var (
	sizes      = []int{1, 2, 4}
	wideSizes  = []int{2, 4}
	bothWays   = []bool{true, false}
	wrongSizes = []int{-1 << 63, -4, -2, -1, 0, 3, 5, 6, 7, 8, 16, 32, 1 << 32, 1<<32 + 1, 1<<32 + 2, 1<<32 + 4, 1<<63 - 1}
	wrongOps   = []int{-1 << 63, -256, -4, -2, -1, 4, 5, 7, 8, 256, 1 << 32, 1<<32 + 1, 1<<63 - 1}
	wrongCcs   = []int{-1 << 63, -256, -16, -15, -2, -1, 16, 17, 18, 31, 32, 256, 1 << 32, 1<<32 + 1, 1<<63 - 1}
	flagWords  = []uint32{0, allBits, api.CF, allBits &^ api.CF, api.ZF, allBits &^ api.ZF, api.One | api.IF, asked, allBits &^ asked}
)

// power is 2 to the power of n: the models reckon in whole numbers, not in bits.
func power(n int) uint64 {
	out := uint64(1)
	for range n {
		out *= 2
	}
	return out
}

func modelCut(size int, a uint32) uint64 { return uint64(a) % power(8*size) }

func isSet(a uint64, place int) bool { return a/power(place)%2 == 1 }

func modelFlags(flags uint32, place int, set bool) uint32 {
	out := uint64(flags)
	if isSet(out, place) {
		out -= power(place)
	}
	if set {
		out += power(place)
	}
	return uint32(out)
}

// values have bits at the edges of each size, and bits above it.
func values() []uint32 {
	var out []uint32
	for _, middle := range []uint32{0, 0x40, 0x80, 0x100, 0x4000, 0x8000, 0x10000, 0x20000, 0x80000, 0x40000000, 0x80000000} {
		out = append(out, middle-1, middle, middle+1)
	}
	return append(out, 0x55555555, 0xAAAAAAAA, 0x12345678, 0x9ABCDEF0, 0x00FF00FF, 0xFFFF0000, 0xFFFFFF00, 0x1FF, 0x38000, 0xFFFF7F00, 0x80018180)
}

// P4.1: every condition, of every combination of the flags that conditions ask, the others set and not set.
func TestCondOfAllFlags(t *testing.T) {
	for n := range 32 {
		o, c, z, s, p := n&1 != 0, n&2 != 0, n&4 != 0, n&8 != 0, n&16 != 0
		want := []bool{o, !o, c, !c, z, !z, c || z, !c && !z, s, !s, p, !p, s != o, s == o, z || s != o, !z && s == o}
		for _, others := range []uint32{0, allBits, api.AF, api.One | api.IF | api.DF, api.IOPL | api.NT | api.TF} {
			flags := others &^ asked
			flags = modelFlags(flags, 11, o)
			flags = modelFlags(flags, 0, c)
			flags = modelFlags(flags, 6, z)
			flags = modelFlags(flags, 7, s)
			flags = modelFlags(flags, 2, p)
			for cc := range 16 {
				if is, e := Cond(cc, flags); is != want[cc] || e != api.OK {
					t.Errorf("Cond(%d, %#x) = %v, %d; want %v", cc, flags, is, e, want[cc])
				}
			}
		}
	}
}

// P4.1, written out by hand, with the flags' own numbers.
func TestCondByHand(t *testing.T) {
	for _, c := range []struct {
		cc    int
		flags uint32
		want  bool
	}{
		{0, 2048, true}, {0, allBits - 2048, false}, {1, 2048, false}, {1, 0, true},
		{2, 1, true}, {2, allBits - 1, false}, {3, 1, false}, {3, 2048, true},
		{4, 64, true}, {4, allBits - 64, false}, {5, 64, false}, {5, 128, true},
		{6, 1, true}, {6, 64, true}, {6, 65, true}, {6, 0, false}, {7, 1, false}, {7, 64, false}, {7, 0, true},
		{8, 128, true}, {8, allBits - 128, false}, {9, 128, false}, {9, 64, true},
		{10, 4, true}, {10, allBits - 4, false}, {11, 4, false}, {11, 2, true},
		{12, 128, true}, {12, 2048, true}, {12, 2176, false}, {12, 0, false}, {13, 2048, false}, {13, 2176, true},
		{14, 64, true}, {14, 128, true}, {14, 2048, true}, {14, 2176, false}, {14, 2240, true}, {15, 64, false}, {15, 2176, true}, {15, 0, true},
	} {
		if is, e := Cond(c.cc, c.flags); is != c.want || e != api.OK {
			t.Errorf("%+v: %v, %d", c, is, e)
		}
	}
}

// P4.1: a condition that is none, whatever flags would make it true.
func TestCondOfWrongInputs(t *testing.T) {
	for _, cc := range wrongCcs {
		for _, flags := range flagWords {
			if is, e := Cond(cc, flags); is || e != api.ErrOp {
				t.Errorf("Cond(%d, %#x) = %v, %d", cc, flags, is, e)
			}
		}
	}
}

func modelBit(op, size int, a, n, flags uint32) (uint32, uint32) {
	v := modelCut(size, a)
	place := int(n % uint32(8*size))
	was := isSet(v, place)
	will := []bool{was, true, false, !was}[op]
	if was {
		v -= power(place)
	}
	if will {
		v += power(place)
	}
	return uint32(v), modelFlags(flags, 0, was)
}

func checkBit(t *testing.T, op, size int, a, n, flags uint32) {
	t.Helper()
	r, f, e := Bit(op, size, a, n, flags)
	wantR, wantF := modelBit(op, size, a, n, flags)
	if r != wantR || f != wantF || e != api.OK {
		t.Fatalf("Bit(%d, %d, %#x, %d, %#x) = %#x, %#x, %d; want %#x, %#x, 0", op, size, a, n, flags, r, f, e, wantR, wantF)
	}
}

// P4.2: each bit, and numbers of bits at and above the size's.
func TestBitAtAllPlaces(t *testing.T) {
	places := []uint32{127, 128, 255, 256, 257, 0x7FFFFFFF, 0x80000000, 0x8000000F, 0xFFFFFFEF, 0xFFFFFFF0, allBits - 1, allBits}
	for n := range uint32(100) {
		places = append(places, n)
	}
	for op := api.Bt; op <= api.Btc; op++ {
		for _, size := range wideSizes {
			for _, a := range values() {
				for _, n := range places {
					for _, flags := range flagWords {
						checkBit(t, op, size, a, n, flags)
					}
				}
			}
		}
	}
}

// P4.2, written out by hand.
func TestBitByHand(t *testing.T) {
	for _, c := range []struct {
		op, size    int
		a, n, flags uint32
		r, f        uint32
	}{
		{api.Bt, 2, 0x12341, 0, 0, 0x2341, api.CF},
		{api.Bt, 2, 0x12340, 0, api.CF | api.ZF, 0x2340, api.ZF},
		{api.Bt, 2, 0x8000, 15, 0, 0x8000, api.CF},
		{api.Bt, 2, 0x10000, 16, api.CF, 0, 0},
		{api.Bt, 2, 0x8000, 31, 0, 0x8000, api.CF},
		{api.Bt, 4, 0x80000000, 31, 0, 0x80000000, api.CF},
		{api.Bt, 4, 0x80000001, 32, 0, 0x80000001, api.CF},
		{api.Bt, 4, 0x10000, 16, 0, 0x10000, api.CF},
		{api.Bts, 2, 0, 15, allBits, 0x8000, allBits - 1},
		{api.Bts, 2, 0, 16, 0, 1, 0},
		{api.Bts, 2, 1, 16, api.One, 1, api.One | api.CF},
		{api.Bts, 4, 0, 63, 0, 0x80000000, 0},
		{api.Btr, 2, allBits, 0, 0, 0xFFFE, api.CF},
		{api.Btr, 2, 0xFFFE, 32, api.CF, 0xFFFE, 0},
		{api.Btr, 4, 0x80000000, allBits, 0, 0, api.CF},
		{api.Btc, 2, 1, 17, 0, 3, 0},
		{api.Btc, 2, 3, 17, api.OF, 1, api.CF | api.OF},
		{api.Btc, 4, 1, 17, 0, 0x20001, 0},
		{api.Btc, 4, 0x20001, 17, 0, 1, api.CF},
	} {
		if r, f, e := Bit(c.op, c.size, c.a, c.n, c.flags); r != c.r || f != c.f || e != api.OK {
			t.Errorf("%+v: %#x, %#x, %d", c, r, f, e)
		}
	}
}

// P4.2: sizes ahead of operations, a size of 1 among the wrong ones, noughts beside.
func TestBitOfWrongInputs(t *testing.T) {
	for _, size := range append([]int{1}, wrongSizes...) {
		for _, op := range append([]int{api.Bt, api.Bts, api.Btr, api.Btc}, wrongOps...) {
			if r, f, e := Bit(op, size, allBits, 3, allBits); r != 0 || f != 0 || e != api.ErrSize {
				t.Errorf("Bit, op %d, size %d: %d, %d, %d", op, size, r, f, e)
			}
		}
	}
	for _, size := range wideSizes {
		for _, op := range wrongOps {
			if r, f, e := Bit(op, size, allBits, 3, allBits); r != 0 || f != 0 || e != api.ErrOp {
				t.Errorf("Bit, op %d, size %d: %d, %d, %d", op, size, r, f, e)
			}
		}
	}
}

// modelScan counts how often the value can be halved evenly, or at all.
func modelScan(up bool, size int, a, flags uint32) (uint32, bool, uint32) {
	v := modelCut(size, a)
	if v == 0 {
		return 0, false, modelFlags(flags, 6, true)
	}
	steps := uint32(0)
	for up && v%2 == 0 {
		v /= 2
		steps++
	}
	for !up && v > 1 {
		v /= 2
		steps++
	}
	return steps, true, modelFlags(flags, 6, false)
}

func checkScan(t *testing.T, up bool, size int, a, flags uint32) {
	t.Helper()
	n, found, f, e := Scan(up, size, a, flags)
	wantN, wantFound, wantF := modelScan(up, size, a, flags)
	if n != wantN || found != wantFound || f != wantF || e != api.OK {
		t.Fatalf("Scan(%v, %d, %#x, %#x) = %d, %v, %#x, %d; want %d, %v, %#x, 0", up, size, a, flags, n, found, f, e, wantN, wantFound, wantF)
	}
}

// P4.3: 0, one bit at each place, two bits at each pair of places, and several.
func TestScanOfBits(t *testing.T) {
	for _, up := range bothWays {
		for _, size := range wideSizes {
			for _, flags := range flagWords {
				for _, a := range values() {
					checkScan(t, up, size, a, flags)
				}
				for i := range 32 {
					for j := range 32 {
						checkScan(t, up, size, 1<<i|1<<j, flags)
					}
				}
			}
			for a := range uint32(1 << 17) {
				checkScan(t, up, size, a, 0)
			}
		}
	}
}

// P4.3, written out by hand.
func TestScanByHand(t *testing.T) {
	for _, c := range []struct {
		up       bool
		size     int
		a, flags uint32
		n        uint32
		found    bool
		f        uint32
	}{
		{true, 4, 0x28, api.ZF, 3, true, 0},
		{false, 4, 0x28, 0, 5, true, 0},
		{true, 4, 0, 0, 0, false, api.ZF},
		{false, 4, 0, allBits, 0, false, allBits},
		{true, 2, 0, api.CF | api.OF, 0, false, api.ZF | api.CF | api.OF},
		{true, 2, 0xFFFF0000, 0, 0, false, api.ZF},
		{false, 2, 0xFFFF0000, 0, 0, false, api.ZF},
		{false, 2, 0x10001, allBits, 0, true, allBits - 64},
		{true, 2, 0x18000, 0, 15, true, 0},
		{false, 2, 0x18000, 0, 15, true, 0},
		{true, 4, 0x80000000, 0, 31, true, 0},
		{false, 4, 0x80000001, 0, 31, true, 0},
		{true, 4, 0x80000001, 0, 0, true, 0},
		{false, 4, 1, api.ZF | api.One, 0, true, api.One},
		{false, 4, 0x10000, 0, 16, true, 0},
	} {
		if n, found, f, e := Scan(c.up, c.size, c.a, c.flags); n != c.n || found != c.found || f != c.f || e != api.OK {
			t.Errorf("%+v: %d, %v, %#x, %d", c, n, found, f, e)
		}
	}
}

// P4.3: a size of 1 is wrong too; noughts and false beside.
func TestScanOfWrongSizes(t *testing.T) {
	for _, up := range bothWays {
		for _, size := range append([]int{1}, wrongSizes...) {
			for _, a := range []uint32{0, 0x28, allBits} {
				if n, found, f, e := Scan(up, size, a, allBits); n != 0 || found || f != 0 || e != api.ErrSize {
					t.Errorf("Scan(%v, %d, %#x): %d, %v, %d, %d", up, size, a, n, found, f, e)
				}
			}
		}
	}
}

func modelExtend(signed bool, from, to int, a uint32) uint32 {
	v := modelCut(from, a)
	if signed && v >= power(8*from-1) {
		v += power(8*to) - power(8*from)
	}
	return uint32(v)
}

// P4.4: each pair of sizes, both ways, every value of two bytes and edges above them.
func TestExtendOfAllPairs(t *testing.T) {
	all := values()
	for a := range uint32(1 << 16) {
		all = append(all, a, a|0xA5A50000)
	}
	for _, signed := range bothWays {
		for _, from := range sizes {
			for _, to := range sizes {
				for _, a := range all {
					want, wantE := uint32(0), api.ErrSize
					if from <= to {
						want, wantE = modelExtend(signed, from, to, a), api.OK
					}
					if x, e := Extend(signed, from, to, a); x != want || e != wantE {
						t.Fatalf("Extend(%v, %d, %d, %#x) = %#x, %d; want %#x, %d", signed, from, to, a, x, e, want, wantE)
					}
				}
			}
		}
	}
}

// P4.4, written out by hand.
func TestExtendByHand(t *testing.T) {
	for _, c := range []struct {
		signed   bool
		from, to int
		a, want  uint32
	}{
		{true, 1, 1, 0x180, 0x80},
		{true, 1, 2, 0x80, 0xFF80},
		{true, 1, 4, 0x80, 0xFFFFFF80},
		{true, 1, 4, 0xFFFFFF7F, 0x7F},
		{true, 2, 2, 0xFFFF8000, 0x8000},
		{true, 2, 4, 0x8000, 0xFFFF8000},
		{true, 2, 4, 0xFFFF7FFF, 0x7FFF},
		{true, 2, 4, 0x80, 0x80},
		{true, 4, 4, 0x80000000, 0x80000000},
		{false, 1, 1, 0x180, 0x80},
		{false, 1, 2, 0xFFFF, 0xFF},
		{false, 1, 4, 0x12345680, 0x80},
		{false, 2, 2, 0x12348000, 0x8000},
		{false, 2, 4, 0x12348000, 0x8000},
		{false, 4, 4, allBits, allBits},
	} {
		if x, e := Extend(c.signed, c.from, c.to, c.a); x != c.want || e != api.OK {
			t.Errorf("%+v: %#x, %d", c, x, e)
		}
	}
}

// P4.4: wrong sizes on either side, and on both; from greater than to.
func TestExtendOfWrongSizes(t *testing.T) {
	pairs := [][2]int{{2, 1}, {4, 1}, {4, 2}}
	for _, wrong := range wrongSizes {
		for _, size := range sizes {
			pairs = append(pairs, [2]int{wrong, size}, [2]int{size, wrong})
		}
		for _, other := range wrongSizes {
			pairs = append(pairs, [2]int{wrong, other})
		}
	}
	for _, signed := range bothWays {
		for _, p := range pairs {
			if x, e := Extend(signed, p[0], p[1], allBits); x != 0 || e != api.ErrSize {
				t.Errorf("Extend(%v, %d, %d): %#x, %d", signed, p[0], p[1], x, e)
			}
		}
	}
}

// P4.4: each byte has its place at the other end.
func TestSwap(t *testing.T) {
	for a, want := range map[uint32]uint32{
		0: 0, allBits: allBits, 0x01020304: 0x04030201, 0x000000FF: 0xFF000000, 0xFF000000: 0xFF, 0x0000FF00: 0x00FF0000, 0x00FF0000: 0xFF00, 0x80000001: 0x01000080, 0x9ABCDEF0: 0xF0DEBC9A,
	} {
		if x := Swap(a); x != want {
			t.Errorf("Swap(%#x) = %#x; want %#x", a, x, want)
		}
	}
	for i := range 4 {
		for b := range uint64(256) {
			if x := Swap(uint32(b * power(8*i))); uint64(x) != b*power(24-8*i) {
				t.Errorf("Swap of the byte %#x at %d: %#x", b, i, x)
			}
		}
	}
}

// P4.5: what is found is set, and none is set beneath it, or above it.
func TestScanFindsTheFirst(t *testing.T) {
	for _, up := range bothWays {
		for _, size := range wideSizes {
			for _, a := range values() {
				n, found, _, _ := Scan(up, size, a, 0)
				if found != (modelCut(size, a) != 0) {
					t.Fatalf("Scan(%v, %d, %#x): %v", up, size, a, found)
				}
				for place := 0; found && place < 8*size; place++ {
					passed := up && place < int(n) || !up && place > int(n)
					set := isSet(uint64(a), place)
					if passed && set || place == int(n) && !set {
						t.Fatalf("Scan(%v, %d, %#x) = %d, yet the bit %d is %v", up, size, a, n, place, set)
					}
				}
			}
		}
	}
}

// P4.5: Swap twice is nothing.
func TestSwapTwice(t *testing.T) {
	for _, a := range values() {
		if x := Swap(Swap(a)); x != a {
			t.Errorf("%#x twice: %#x", a, x)
		}
	}
}
