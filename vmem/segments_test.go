package vmem

import (
	"testing"

	"drawloom/api"
)

// ofSegments are the calls that ask for a value of a segment.
var ofSegments = []string{"Load", "Check", "Store"}

// vectorFor is the fault of what a segment does not let.
func vectorFor(seg int) api.Fault {
	if seg == api.Ss {
		return stack
	}
	return protection
}

// P16.2: a wrong size or segment comes first of all: ahead of what the segment lets, which would be 12 of SS, and ahead of the pages, which would be 14.
func TestWrongSizesAndSegmentsComeFirst(t *testing.T) {
	for _, null := range both {
		r := newPaged(t)
		for _, seg := range segments {
			r.c.Seg[seg].Null = null
		}
		for _, name := range ofSegments {
			for _, size := range noSizes {
				for _, seg := range append(segments, noSegs...) {
					r.faults(call{name: name, seg: seg, at: 0x5000, size: size}, protection)
				}
			}
			for _, size := range sizes {
				for _, seg := range noSegs {
					r.faults(call{name: name, seg: seg, at: 0x5000, size: size}, protection)
				}
			}
		}
	}
}

// P16.2: eight bytes are a size that segments let, but none of a value.
func TestEightBytesAreNoValue(t *testing.T) {
	r := newRig(t)
	for _, name := range ofSegments {
		r.faults(call{name: name, seg: api.Ss, at: 0, size: 8}, protection)
	}
	for _, name := range []string{"Sys", "SetSys"} {
		r.faults(call{name: name, at: 0, size: 8}, protection)
	}
}

// P16.2: each segment has its own base, and its own descriptor.
func TestEachSegmentHasItsBase(t *testing.T) {
	for _, seg := range segments {
		r := newRig(t)
		for _, other := range segments {
			r.c.Seg[other].D.Base = 0x1000 * uint32(other+1)
			r.c.Seg[other].Null = other != seg
			r.c.Seg[other].D.Limit = 0
		}
		r.c.Seg[seg].D.Limit = 0xFF
		base := 0x1000 * uint32(seg+1)
		r.p.Load(base+0x10, []byte{0x11, 0x22, 0x83, 0x94, 0x55})
		for _, x := range []struct {
			size int
			v    uint32
		}{{1, 0x11}, {2, 0x2211}, {4, 0x94832211}} {
			r.does(call{name: "Load", seg: seg, at: 0x10, size: x.size}, answer{v: x.v, f: none})
		}
		if seg == api.Cs {
			r.faults(call{name: "Store", seg: seg, at: 0x10, size: 1}, protection)
			r.faults(call{name: "Check", seg: seg, at: 0x10, size: 1}, protection)
			continue
		}
		for _, x := range []struct {
			at   uint32
			size int
			want []byte
		}{
			{0x20, 1, []byte{0, 0xD4, 0, 0, 0, 0}},
			{0x30, 2, []byte{0, 0xD4, 0xC3, 0, 0, 0}},
			{0x40, 4, []byte{0, 0xD4, 0xC3, 0xB2, 0xA1, 0}},
		} {
			r.does(call{name: "Check", seg: seg, at: x.at, size: x.size}, answer{f: none})
			r.bytesAt(base+x.at-1, 0, 0, 0, 0, 0, 0)
			r.does(call{name: "Store", seg: seg, at: x.at, size: x.size, v: 0xA1B2C3D4}, answer{f: none})
			r.bytesAt(base+x.at-1, x.want...)
			r.does(call{name: "Load", seg: seg, at: x.at, size: x.size}, answer{v: cut(0xA1B2C3D4, x.size), f: none})
		}
	}
}

// letsOf is what a kind lets, at offset 0x100 with the Limit 0xFFFF: a segment that goes down lets nothing there.
type letsOf struct{ read, write bool }

// P16.2: what each type lets: data, then code; system segments let nothing, nor what is no type.
var typeLets = map[int]letsOf{
	0: {true, false}, 1: {true, false},
	2: {true, true}, 3: {true, true},
	4: {false, false}, 5: {false, false},
	6: {false, false}, 7: {false, false},
	8: {false, false}, 9: {false, false},
	10: {true, false}, 11: {true, false},
	12: {false, false}, 13: {false, false},
	14: {true, false}, 15: {true, false},
	-1: {false, false}, 16: {false, false}, 18: {false, false}, -14: {false, false},
}

// P16.2: kinds of segments, read and written, with the vector that is each one's.
func TestKindsOfSegments(t *testing.T) {
	r := newRig(t)
	for _, seg := range segments {
		for kind, lets := range typeLets {
			for n := range 8 {
				d := api.Desc{Limit: 0xFFFF, Type: kind, System: n&1 != 0, Present: n&2 == 0, Big: true}
				null := n&4 != 0
				r.c.Seg[seg] = api.SegReg{Sel: r.c.Seg[seg].Sel, Null: null, D: d}
				is := !d.System && d.Present && !null
				for _, name := range ofSegments {
					x := call{name: name, seg: seg, at: 0x100, size: 2}
					if is && (x.writes() && lets.write || !x.writes() && lets.read) {
						r.does(x, answer{f: none})
					} else {
						r.faults(x, vectorFor(seg))
					}
				}
			}
		}
		r.c = flat()
	}
}

// P16.2: the segment that is asked for is looked at, and no other.
func TestOtherSegmentsAreNotLookedAt(t *testing.T) {
	for _, seg := range segments {
		r := newRig(t)
		for _, other := range segments {
			if other != seg {
				r.c.Seg[other] = api.SegReg{Null: true}
			}
		}
		r.does(call{name: "Load", seg: seg, at: 0x100, size: 4}, answer{f: none})
		for _, other := range segments {
			if other != seg {
				r.faults(call{name: "Load", seg: other, at: 0x100, size: 4}, vectorFor(other))
			}
		}
	}
}

// P16.2: neither Dpl nor Sel says whether a value is let: that was asked when the register was loaded.
func TestRightsOfRingsAreNotLookedAt(t *testing.T) {
	r := newRig(t)
	for ring := range 4 {
		r.ring(ring)
		for dpl := range 4 {
			r.c.Seg[api.Ds].D.Dpl = dpl
			for _, sel := range []uint16{0, 3, 0x10, 0x13, 0xFFFF} {
				r.c.Seg[api.Ds].Sel = sel
				for _, name := range ofSegments {
					r.does(call{name: name, seg: api.Ds, at: 0x100, size: 4}, answer{f: none})
				}
			}
		}
	}
}

// P16.2: the last byte of a value at the Limit, one below it and one above it.
func TestLimits(t *testing.T) {
	for _, seg := range []int{api.Es, api.Ss, api.Ds, api.Fs, api.Gs} {
		r := newRig(t)
		for _, limit := range []uint32{3, 7, 0xFFE, 0xFFF, 0x1000, 0xFFFF, 0xFFFFF, 0xFFFFFFFE} {
			r.c.Seg[seg].D.Limit = limit
			for _, size := range sizes {
				last := limit - uint32(size) + 1
				for _, name := range ofSegments {
					r.does(call{name: name, seg: seg, at: last, size: size}, r.letAt(last, size, name))
					r.faults(call{name: name, seg: seg, at: last + 1, size: size}, vectorFor(seg))
					if last > 0 {
						r.does(call{name: name, seg: seg, at: last - 1, size: size}, r.letAt(last-1, size, name))
					}
					r.faults(call{name: name, seg: seg, at: limit + 1, size: size}, vectorFor(seg))
				}
			}
		}
	}
}

// letAt is the answer of a call that is let, in memory of noughts: above its end all bytes are 255.
func (r *rig) letAt(at uint32, size int, name string) answer {
	a := answer{f: none}
	if name != "Load" {
		return a
	}
	for n := range size {
		if at+uint32(n) >= uint32(r.p.Len()) {
			a.v += 255 << (8 * n)
		}
	}
	return a
}

// P16.2: the largest limit lets all, but not what goes round behind the last offset.
func TestLargestLimit(t *testing.T) {
	for _, seg := range []int{api.Es, api.Ss, api.Ds, api.Fs, api.Gs} {
		r := newRig(t)
		for _, name := range ofSegments {
			for _, x := range []struct {
				at   uint32
				size int
				lets bool
			}{
				{0xFFFFFFFF, 1, true}, {0xFFFFFFFE, 2, true}, {0xFFFFFFFC, 4, true},
				{0xFFFFFFFF, 2, false}, {0xFFFFFFFD, 4, false}, {0xFFFFFFFE, 4, false}, {0xFFFFFFFF, 4, false},
			} {
				y := call{name: name, seg: seg, at: x.at, size: x.size}
				if x.lets {
					r.does(y, r.letAt(x.at, x.size, name))
				} else {
					r.faults(y, vectorFor(seg))
				}
			}
		}
	}
}

// P16.2: segments that go down begin above their Limit, and end at 0xFFFFFFFF, or at 0xFFFF, if they are not Big.
func TestSegmentsThatGoDown(t *testing.T) {
	for _, seg := range []int{api.Ss, api.Ds} {
		for _, kind := range []int{4, 6} {
			r := newRig(t)
			r.c.Seg[seg].D.Type = kind
			r.c.Seg[seg].D.Limit = 7
			for _, x := range []struct {
				big  bool
				at   uint32
				size int
				lets bool
			}{
				{true, 0, 1, false}, {true, 6, 1, false}, {true, 7, 1, false}, {true, 7, 4, false},
				{true, 8, 1, true}, {true, 8, 2, true}, {true, 8, 4, true}, {true, 9, 4, true},
				{true, 0xFFFF, 4, true}, {true, 0x10000, 1, true},
				{true, 0xFFFFFFFC, 4, true}, {true, 0xFFFFFFFD, 4, false}, {true, 0xFFFFFFFF, 1, true}, {true, 0xFFFFFFFF, 2, false},
				{false, 7, 1, false}, {false, 8, 4, true}, {false, 0xFFFC, 4, true}, {false, 0xFFFF, 1, true},
				{false, 0xFFFD, 4, false}, {false, 0xFFFF, 2, false}, {false, 0x10000, 1, false}, {false, 0xFFFFFFFF, 1, false},
			} {
				r.c.Seg[seg].D.Big = x.big
				for _, name := range ofSegments {
					y := call{name: name, seg: seg, at: x.at, size: x.size}
					if x.lets && (kind == 6 || name == "Load") {
						r.does(y, r.letAt(x.at, x.size, name))
					} else {
						r.faults(y, vectorFor(seg))
					}
				}
			}
		}
	}
}

// P16.2: the sum of base and offset is cut to 32 bits, also within a value.
func TestSumsGoRound(t *testing.T) {
	for _, x := range []struct{ base, at, lin uint32 }{
		{0xFFFFFFFF, 1, 0}, {0xFFFFFFFF, 0x101, 0x100}, {0x80000000, 0x80000010, 0x10},
		{0xFFFFF000, 0x1FFC, 0xFFC}, {0x1000, 0xFFFFF020, 0x20}, {0xFFFFFFF0, 0x2010, 0x2000},
		{2, 0xFFFFFFFC, 0xFFFFFFFE},
	} {
		for _, size := range sizes {
			r := newRig(t)
			r.c.Seg[api.Gs].D.Base = x.base
			r.p.Load(x.lin, []byte{0x11, 0x22, 0x33, 0x44})
			want := uint32(0)
			for n := range size {
				is := r.p.Dump(x.lin+uint32(n), 1)
				want += uint32(is[0]) << (8 * n)
			}
			r.does(call{name: "Load", seg: api.Gs, at: x.at, size: size}, answer{v: want, f: none})
			r.does(call{name: "Store", seg: api.Gs, at: x.at, size: size, v: 0x88776655}, answer{f: none})
			for n, one := range bytesOf(0x88776655, size) {
				if place := x.lin + uint32(n); place < 0x10000 {
					r.bytesAt(place, one)
				}
			}
		}
	}
}

// P16.2: what the segment does not let comes ahead of the pages, which were never asked.
func TestSegmentsComeAheadOfPages(t *testing.T) {
	r := newPaged(t)
	r.page(0x5000, 0x6007)
	for _, seg := range segments {
		r.c.Seg[seg].D.Limit = 0x5010
	}
	for _, seg := range segments {
		for _, name := range ofSegments {
			r.faults(call{name: name, seg: seg, at: 0x500E, size: 4}, vectorFor(seg))
			r.faults(call{name: name, seg: seg, at: 0x9000, size: 4}, vectorFor(seg))
		}
	}
	r.is(first, lowest|7)
	r.is(second(0x5000), 0x6007)
}

// The words of "PG not set": each byte's place is its linear address, whatever else Cr0 says; Cr3 is not looked at.
func TestPlacesWithoutPages(t *testing.T) {
	for _, cr0 := range []uint32{0, 1, 65536, 65537, 0x7FFFFFFF} {
		for ring := range 4 {
			r := newRig(t)
			r.c.Cr0 = cr0
			r.c.Cr3 = 0x5000
			r.ring(ring)
			r.p.Load(0xFFD, []byte{1, 2, 3, 4, 5, 6})
			r.does(call{name: "Load", seg: api.Ds, at: 0xFFE, size: 4}, answer{v: 0x05040302, f: none})
			r.does(call{name: "Sys", at: 0xFFF, size: 2}, answer{v: 0x0403, f: none})
			r.does(call{name: "Code", at: 0x1000}, answer{v: 4, at: 0x1000, f: none})
			r.does(call{name: "Store", seg: api.Ss, at: 0x1FFD, size: 4, v: 0xA4A3A2A1}, answer{f: none})
			r.bytesAt(0x1FFC, 0, 0xA1, 0xA2, 0xA3, 0xA4, 0)
			r.does(call{name: "SetSys", at: 0x2FFF, size: 2, v: 0xA4A3A2A1}, answer{f: none})
			r.bytesAt(0x2FFE, 0, 0xA1, 0xA2, 0)
			r.bytesAt(0x5000, make([]byte, 0x1000)...)
		}
	}
}

// Above memory 255 is read, and what is written is lost: neither is a fault; and the last address is followed by the first one.
func TestAboveMemory(t *testing.T) {
	r := newRig(t)
	r.lay(0, 0x04030201)
	r.lay(0xFFFC, 0x44332211)
	for _, x := range []struct {
		at   uint32
		size int
		v    uint32
	}{
		{0xFFFC, 4, 0x44332211}, {0xFFFD, 4, 0xFF443322}, {0xFFFF, 4, 0xFFFFFF44}, {0xFFFF, 2, 0xFF44},
		{0x10000, 1, 0xFF}, {0x10000, 4, 0xFFFFFFFF}, {0x7FFFFFFF, 4, 0xFFFFFFFF}, {0xFFFFFFFC, 4, 0xFFFFFFFF},
	} {
		r.does(call{name: "Load", seg: api.Ds, at: x.at, size: x.size}, answer{v: x.v, f: none})
		r.does(call{name: "Sys", at: x.at, size: x.size}, answer{v: x.v, f: none})
		r.does(call{name: "Code", at: x.at}, answer{v: x.v % 256, at: x.at, f: none})
	}
	for _, x := range []struct {
		at   uint32
		size int
		v    uint32
	}{{0xFFFFFFFF, 2, 0x01FF}, {0xFFFFFFFF, 4, 0x030201FF}, {0xFFFFFFFD, 4, 0x01FFFFFF}} {
		r.does(call{name: "Sys", at: x.at, size: x.size}, answer{v: x.v, f: none})
		r.c.Seg[api.Fs].D.Base = x.at
		r.does(call{name: "Load", seg: api.Fs, at: 0, size: x.size}, answer{v: x.v, f: none})
	}
	r.does(call{name: "Store", seg: api.Ds, at: 0xFFFE, size: 4, v: 0xD4C3B2A1}, answer{f: none})
	r.is(0xFFFC, 0xB2A12211)
	r.does(call{name: "Store", seg: api.Ds, at: 0x10000, size: 4, v: 0x01010101}, answer{f: none})
	r.does(call{name: "SetSys", at: 0x20000000, size: 4, v: 0x01010101}, answer{f: none})
	r.is(0, 0x04030201)
	r.does(call{name: "SetSys", at: 0xFFFFFFFE, size: 4, v: 0xD4C3B2A1}, answer{f: none})
	r.is(0, 0x0403D4C3)
	r.does(call{name: "Check", seg: api.Ds, at: 0x10000, size: 4}, answer{f: none})
}

// The gate is the physical memory's: with it closed bit 20 says nothing, but the place of code is told as it is asked for.
func TestGate(t *testing.T) {
	r := newRig(t)
	r.lay(0x10, 0x44332211)
	for _, open := range both {
		r.p.Gate(open)
		v := uint32(0x44332211)
		if open {
			v = 0xFFFFFFFF
		}
		r.does(call{name: "Load", seg: api.Ds, at: 0x100010, size: 4}, answer{v: v, f: none})
		r.does(call{name: "Sys", at: 0x100010, size: 4}, answer{v: v, f: none})
		r.does(call{name: "Code", at: 0x100010}, answer{v: v % 256, at: 0x100010, f: none})
	}
	r.p.Gate(false)
	r.does(call{name: "Store", seg: api.Ds, at: 0x100020, size: 4, v: 0x01020304}, answer{f: none})
	r.is(0x20, 0x01020304)
	r.does(call{name: "SetSys", at: 0x100024, size: 2, v: 0x0506}, answer{f: none})
	r.is(0x24, 0x0506)
}

// A page of memory that can only be read is no fault: its bytes stay.
func TestRom(t *testing.T) {
	r := newRig(t)
	r.lay(0x5FFC, 0x44332211)
	r.p.Rom(5, true)
	for _, x := range []call{
		{name: "Store", seg: api.Ds, at: 0x5FFE, size: 4, v: 0xD4C3B2A1},
		{name: "SetSys", at: 0x5FFE, size: 4, v: 0xD4C3B2A1},
	} {
		r.lay(0x6000, 0)
		r.does(x, answer{f: none})
		r.is(0x5FFC, 0x44332211)
		r.is(0x6000, 0xD4C3)
	}
	r.does(call{name: "Check", seg: api.Ds, at: 0x5FFC, size: 4}, answer{f: none})
}
