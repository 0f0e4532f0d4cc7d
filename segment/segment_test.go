package segment

import (
	"testing"

	"drawloom/api"
)

var (
	both  = []bool{false, true}
	rings = []int{0, 1, 2, 3}

	// Numbers far out, some of which are right ones if they are cut to 32, 16 or 8 bits.
	farOut     = []int{-1 << 63, -1<<63 + 2, -1 << 32, -1<<32 + 2, -1 << 31, -65536, -256, 256, 258, 65536, 65538, 1 << 31, 1<<32 - 1, 1 << 32, 1<<32 + 2, 1<<32 + 3, 1<<32 + 10, 1<<63 - 1}
	wrongTypes = append([]int{-17, -16, -15, -14, -8, -6, -2, -1, 16, 17, 18, 22, 24, 26, 30, 31, 32, 34, 42}, farOut...)
	wrongRings = append([]int{-4, -3, -2, -1, 4, 5, 6, 7, 8}, farOut...)

	bases = []uint32{0, 1, 0xFF, 0x8000, 0xFFFF, 0x10000, 0x800000, 0xFF0000, 0x1000000, 0x12345678, 0x9ABCDEF0, 0x80000000, 0xFF000000, 0xFFFFFFFF}

	// Of these Limits each has words: at and around 0xFFFFF, and above it with the lowest 12 bits all set.
	tellable = []uint32{0, 1, 7, 0xFFE, 0xFFF, 0x1000, 0x1FFF, 0xFFFF, 0x10000, 0x12345, 0x7FFFF, 0x80000, 0xABCDE, 0xFEFFF, 0xFFFFE, 0xFFFFF, 0x100FFF, 0x101FFF, 0x1FFFFF, 0xFFFFFFF, 0x10000FFF, 0x12345FFF, 0x7FFFFFFF, 0x80000FFF, 0xABCDEFFF, 0xFFFFEFFF, 0xFFFFFFFF}

	// Of these none has.
	untellable = []uint32{0x100000, 0x100001, 0x1007FF, 0x100FFE, 0x101000, 0x101FFE, 0x1FFFFE, 0x12345678, 0x7FFFFFFE, 0x80000000, 0x800007FF, 0xABCDEFFE, 0xABCDE7FF, 0xABCDEBFF, 0xFFFFF000, 0xFFFFF7FF, 0xFFFFFFFE}
)

// power is 2 to the power of n: the models reckon in whole numbers, not in bits.
func power(n int) uint64 {
	out := uint64(1)
	for range n {
		out *= 2
	}
	return out
}

// field is the number that so many bits of a word are, from a place on.
func field(word uint32, place, width int) uint64 {
	return uint64(word) / power(place) % power(width)
}

func modelParse(lo, hi uint32) api.Desc {
	limit := field(lo, 0, 16) + field(hi, 16, 4)*65536
	if field(hi, 23, 1) == 1 {
		limit = limit*4096 + 4095
	}
	return api.Desc{
		Base:    uint32(field(lo, 16, 16) + field(hi, 0, 8)*power(16) + field(hi, 24, 8)*power(24)),
		Limit:   uint32(limit),
		Type:    int(field(hi, 8, 4)),
		System:  field(hi, 12, 1) == 0,
		Dpl:     int(field(hi, 13, 2)),
		Present: field(hi, 15, 1) == 1,
		Big:     field(hi, 22, 1) == 1,
	}
}

func checkParse(t *testing.T, lo, hi uint32) {
	t.Helper()
	if is, want := Parse(lo, hi), modelParse(lo, hi); is != want {
		t.Errorf("Parse(%#x, %#x) = %+v; want %+v", lo, hi, is, want)
	}
}

// P8.1: the chapter's example, and others written out by hand.
func TestParseByHand(t *testing.T) {
	for _, c := range []struct {
		lo, hi uint32
		want   api.Desc
	}{
		{0x0000FFFF, 0x00CF9A00, api.Desc{Limit: 0xFFFFFFFF, Type: 10, Present: true, Big: true}},
		{0, 0, api.Desc{System: true}},
		{0xFFFFFFFF, 0xFFFFFFFF, api.Desc{Base: 0xFFFFFFFF, Limit: 0xFFFFFFFF, Type: 15, Dpl: 3, Present: true, Big: true}},
		{0x56781234, 0x9A45F29C, api.Desc{Base: 0x9A9C5678, Limit: 0x51234, Type: 2, Dpl: 3, Present: true, Big: true}},
		{0x56781234, 0x9A85329C, api.Desc{Base: 0x9A9C5678, Limit: 0x51234FFF, Type: 2, Dpl: 1}},
		{0x20000067, 0x00008901, api.Desc{Base: 0x12000, Limit: 0x67, Type: 9, System: true, Present: true}},
		{0, 0x00800000, api.Desc{Limit: 0xFFF, System: true}},
		{0, 0x00300000, api.Desc{System: true}},
	} {
		if is := Parse(c.lo, c.hi); is != c.want {
			t.Errorf("Parse(%#x, %#x) = %+v; want %+v", c.lo, c.hi, is, c.want)
		}
	}
}

// P8.1: what each bit means where no other is set, bit 23 set and not, written out by hand.
func TestParseMeaningOfEachBit(t *testing.T) {
	for _, inPages := range both {
		hi, none, factor := uint32(0), api.Desc{System: true}, uint32(1)
		if inPages {
			hi, none.Limit, factor = 0x800000, 4095, 4096
		}
		check := func(lo, more uint32, want api.Desc) {
			t.Helper()
			if is := Parse(lo, hi|more); is != want {
				t.Errorf("Parse(%#x, %#x) = %+v; want %+v", lo, hi|more, is, want)
			}
		}
		for n := range 16 {
			limit, base := none, none
			limit.Limit += factor * uint32(power(n))
			check(uint32(power(n)), 0, limit)
			base.Base = uint32(power(n))
			check(uint32(power(n+16)), 0, base)
		}
		for n := range 8 {
			middle, top := none, none
			middle.Base = uint32(power(n + 16))
			check(0, uint32(power(n)), middle)
			top.Base = uint32(power(n + 24))
			check(0, uint32(power(n+24)), top)
		}
		for n := range 4 {
			kind, limit := none, none
			kind.Type = int(power(n))
			check(0, uint32(power(n+8)), kind)
			limit.Limit += factor * uint32(power(n+16))
			check(0, uint32(power(n+16)), limit)
		}
		for place, change := range map[int]func(*api.Desc){
			12: func(d *api.Desc) { d.System = false },
			13: func(d *api.Desc) { d.Dpl = 1 },
			14: func(d *api.Desc) { d.Dpl = 2 },
			15: func(d *api.Desc) { d.Present = true },
			20: func(d *api.Desc) {},
			21: func(d *api.Desc) {},
			22: func(d *api.Desc) { d.Big = true },
		} {
			want := none
			change(&want)
			check(0, uint32(power(place)), want)
		}
	}
}

// P8.1: each bit of both words set on its own, and cleared on its own, and all pairs of bits, with bit 23 set and not.
func TestParseOfEachBit(t *testing.T) {
	word := func(n int) (lo, hi uint32) {
		if n < 32 {
			return uint32(power(n)), 0
		}
		return 0, uint32(power(n - 32))
	}
	for n := range 64 {
		for m := range 64 {
			loN, hiN := word(n)
			loM, hiM := word(m)
			for _, pages := range []uint32{0, 0x800000} {
				lo, hi := loN|loM, hiN|hiM
				checkParse(t, lo, hi|pages)
				checkParse(t, ^lo, ^(hi | pages))
				checkParse(t, lo^0xA5C3F018, hi|pages^0x3C5A61E7)
			}
		}
	}
}

// P8.1: all marks of the upper word at once.
func TestParseOfAllMarks(t *testing.T) {
	for marks := range uint32(1 << 16) {
		checkParse(t, 0x87654321, 0x21000000|marks<<8|0xCB)
	}
}

// modelPack are the words of a descriptor that has some.
func modelPack(d api.Desc) (lo, hi uint32) {
	limit, base, marks := uint64(d.Limit), uint64(d.Base), uint64(0)
	if limit >= power(20) {
		limit, marks = (limit-4095)/4096, power(23)
	}
	for place, set := range map[int]bool{12: !d.System, 15: d.Present, 22: d.Big} {
		if set {
			marks += power(place)
		}
	}
	marks += uint64(d.Type)*power(8) + uint64(d.Dpl)*power(13)
	marks += limit / power(16) * power(16)
	marks += base/power(16)%power(8) + base/power(24)*power(24)
	return uint32(base%power(16)*power(16) + limit%power(16)), uint32(marks)
}

// checkPack: P8.1 and P8.5: the words, their bits 20, 21 and 23, and that they are read as d.
func checkPack(t *testing.T, d api.Desc) {
	t.Helper()
	lo, hi, e := Pack(d)
	if wantLo, wantHi := modelPack(d); lo != wantLo || hi != wantHi || e != api.OK {
		t.Errorf("Pack(%+v) = %#x, %#x, %d; want %#x, %#x, 0", d, lo, hi, e, wantLo, wantHi)
	}
	if is := Parse(lo, hi); is != d {
		t.Errorf("Pack(%+v) = %#x, %#x is read as %+v", d, lo, hi, is)
	}
	if field(hi, 21, 1) != 0 {
		t.Errorf("Pack(%+v) = %#x, %#x: bit 21 is set", d, lo, hi)
	}
	if inPages := field(hi, 23, 1) == 1; inPages != (d.Limit > 0xFFFFF) {
		t.Errorf("Pack(%+v) = %#x, %#x: bit 23 is %v", d, lo, hi, inPages)
	}
}

func checkNoPack(t *testing.T, d api.Desc) {
	t.Helper()
	if lo, hi, e := Pack(d); lo != 0 || hi != 0 || e != api.ErrSegDesc {
		t.Errorf("Pack(%+v) = %#x, %#x, %d; want 0, 0, %d", d, lo, hi, e, api.ErrSegDesc)
	}
}

// marked are a descriptor's copies with each of its three marks set and not.
func marked(d api.Desc) []api.Desc {
	var out []api.Desc
	for _, d.System = range both {
		for _, d.Present = range both {
			for _, d.Big = range both {
				out = append(out, d)
			}
		}
	}
	return out
}

// P8.1: words written out by hand.
func TestPackByHand(t *testing.T) {
	for _, c := range []struct {
		d      api.Desc
		lo, hi uint32
	}{
		{api.Desc{Limit: 0xFFFFFFFF, Type: 10, Present: true, Big: true}, 0x0000FFFF, 0x00CF9A00},
		{api.Desc{}, 0, 0x00001000},
		{api.Desc{System: true}, 0, 0},
		{api.Desc{Limit: 0xFFFFF}, 0xFFFF, 0x000F1000},
		{api.Desc{Limit: 0xFFF}, 0xFFF, 0x00001000},
		{api.Desc{Limit: 0x100FFF}, 0x100, 0x00801000},
		{api.Desc{Base: 0x9A9C5678, Limit: 0x51234, Type: 2, Dpl: 3, Present: true, Big: true}, 0x56781234, 0x9A45F29C},
		{api.Desc{Base: 0x9A9C5678, Limit: 0x51234FFF, Type: 2, Dpl: 1}, 0x56781234, 0x9A85329C},
		{api.Desc{Base: 0x12000, Limit: 0x67, Type: 9, System: true, Present: true}, 0x20000067, 0x00008901},
		{api.Desc{Base: 0xFFFFFFFF, Limit: 0xFFFFFFFF, Type: 15, Dpl: 3, Present: true, Big: true}, 0xFFFFFFFF, 0xFFCFFFFF},
	} {
		if lo, hi, e := Pack(c.d); lo != c.lo || hi != c.hi || e != api.OK {
			t.Errorf("Pack(%+v) = %#x, %#x, %d; want %#x, %#x", c.d, lo, hi, e, c.lo, c.hi)
		}
	}
}

// P8.1, P8.5: each Type, Dpl and mark, of Bases and Limits that have words.
func TestPackOfAll(t *testing.T) {
	for kind := range 16 {
		for _, dpl := range rings {
			for _, base := range bases {
				for _, limit := range tellable {
					for _, d := range marked(api.Desc{Base: base, Limit: limit, Type: kind, Dpl: dpl}) {
						checkPack(t, d)
					}
				}
			}
		}
	}
}

// P8.1, P8.5: each bit of Base, and of both kinds of Limits, on its own.
func TestPackOfEachBit(t *testing.T) {
	for n := range 32 {
		bit := uint32(power(n))
		checkPack(t, api.Desc{Base: bit, System: true})
		checkPack(t, api.Desc{Base: ^bit, Limit: 0xFFFFFFFF, Type: 15, Dpl: 3, Present: true, Big: true})
		if n < 20 {
			checkPack(t, api.Desc{Limit: bit, System: true})
			checkPack(t, api.Desc{Limit: 0xFFFFF &^ bit, Type: 15})
			checkPack(t, api.Desc{Limit: 0x100FFF | bit<<12})
		} else {
			checkPack(t, api.Desc{Limit: bit | 0xFFF, System: true})
			checkPack(t, api.Desc{Limit: ^bit, Type: 15})
			checkNoPack(t, api.Desc{Limit: bit})
		}
		if n < 12 {
			checkNoPack(t, api.Desc{Limit: 0xFFFFFFFF &^ bit})
			checkNoPack(t, api.Desc{Limit: 0x100FFF &^ bit})
			checkNoPack(t, api.Desc{Limit: 0x100000 | bit})
		}
	}
}

// P8.1: every Limit around 0xFFFFF: just those have words that are not above it or have the lowest 12 bits all set.
func TestPackAroundTheSmall(t *testing.T) {
	for limit := uint32(0xFD000); limit < 0x104000; limit++ {
		d := api.Desc{Base: 0x12345678, Limit: limit, Type: 3, Dpl: 2}
		if limit < 0x100000 || limit%4096 == 4095 {
			checkPack(t, d)
		} else {
			checkNoPack(t, d)
		}
	}
}

// P8.1: each part that can be wrong, on its own and with the others.
func TestPackOfWrongParts(t *testing.T) {
	good := api.Desc{Base: 0x9A9C5678, Limit: 0x51234, Type: 2, Dpl: 3, Present: true, Big: true}
	for _, d := range marked(good) {
		for _, d.Limit = range append([]uint32{0, 0xFFFFF, 0xFFFFFFFF}, untellable...) {
			for _, kind := range wrongTypes {
				off := d
				off.Type = kind
				checkNoPack(t, off)
			}
			for _, ring := range wrongRings {
				off := d
				off.Dpl = ring
				checkNoPack(t, off)
				off.Type = -ring
				checkNoPack(t, off)
			}
		}
		for _, d.Limit = range untellable {
			for kind := range 16 {
				for _, dpl := range rings {
					off := d
					off.Type, off.Dpl = kind, dpl
					checkNoPack(t, off)
				}
			}
		}
	}
}

// P8.5: words without the two bits that say nothing, and with bit 23 just where it must be, are packed as they were.
func TestPackOfWhatWasParsed(t *testing.T) {
	lo, hi := uint32(0x12345678), uint32(0x9ABCDEF0)
	for range 100000 {
		lo = lo*1664525 + 1013904223
		hi = hi*22695477 + 1
		d := Parse(lo, hi)
		wantHi := hi &^ 0x300000
		if field(hi, 23, 1) == 1 && d.Limit < 0x100000 {
			checkPack(t, d)
			continue
		}
		if isLo, isHi, e := Pack(d); isLo != lo || isHi != wantHi || e != api.OK {
			t.Fatalf("Pack(%+v) = %#x, %#x, %d; want %#x, %#x", d, isLo, isHi, e, lo, wantHi)
		}
	}
}
