package segment

import (
	"testing"

	"drawloom/api"
)

// is tells what a segment is, in the chapter's words.
type is struct{ code, conforming, readable, data, down, writable bool }

// modelIs tells the sixteen Types one by one.
func modelIs(d api.Desc) is {
	if d.System {
		return is{}
	}
	switch d.Type {
	case 0, 1:
		return is{data: true}
	case 2, 3:
		return is{data: true, writable: true}
	case 4, 5:
		return is{data: true, down: true}
	case 6, 7:
		return is{data: true, down: true, writable: true}
	case 8, 9:
		return is{code: true}
	case 10, 11:
		return is{code: true, readable: true}
	case 12, 13:
		return is{code: true, conforming: true}
	case 14, 15:
		return is{code: true, conforming: true, readable: true}
	}
	return is{}
}

var (
	wrongSizes = append([]int{-8, -4, -2, -1, 0, 3, 5, 6, 7, 9, 10, 12, 15, 16, 32, 64}, append([]int{1<<32 + 1, 1<<32 + 4, 1<<32 + 8, 257, 260, 264}, farOut...)...)
	rightSizes = []int{1, 2, 4, 8}
	limits     = []uint32{0, 1, 2, 3, 6, 7, 8, 9, 0xFFE, 0xFFF, 0x1000, 0xFFF7, 0xFFFD, 0xFFFE, 0xFFFF, 0x10000, 0x10001, 0xFFFFF, 0x7FFFFFFF, 0x80000000, 0xFFFFFFF0, 0xFFFFFFF7, 0xFFFFFFF8, 0xFFFFFFFD, 0xFFFFFFFE, 0xFFFFFFFF}
	allRings   = append([]int{0, 1, 2, 3}, wrongRings...)
)

// offsets are those at and around an end, the ends of 2^32 and of 0xFFFF.
func offsets(limit uint32) []uint32 {
	var out []uint32
	for _, middle := range []uint32{0, limit, 0xFFFF, 0x7FFFFFFF} {
		for n := range uint32(24) {
			out = append(out, middle-12+n)
		}
	}
	return out
}

// modelReach asks of each byte whether it lies in the segment.
func modelReach(d api.Desc, off uint32, size int, write bool) bool {
	if size != 1 && size != 2 && size != 4 && size != 8 {
		return false
	}
	seg := modelIs(d)
	if !seg.code && !seg.data || !d.Present {
		return false
	}
	if write && !(seg.data && seg.writable) {
		return false
	}
	if !write && seg.code && !seg.readable {
		return false
	}
	top := uint64(0xFFFF)
	if d.Big {
		top = power(32) - 1
	}
	for n := range uint64(size) {
		at := uint64(off) + n
		inside := at <= uint64(d.Limit)
		if seg.data && seg.down {
			inside = at > uint64(d.Limit) && at <= top
		}
		if !inside || at >= power(32) {
			return false
		}
	}
	return true
}

func checkReach(t *testing.T, d api.Desc, off uint32, size int, write bool) {
	t.Helper()
	if let, want := Reach(d, off, size, write), modelReach(d, off, size, write); let != want {
		t.Fatalf("Reach(%+v, %#x, %d, %v) = %v; want %v", d, off, size, write, let, want)
	}
}

// P8.2: the chapter's examples, and others written out by hand.
func TestReachByHand(t *testing.T) {
	up := api.Desc{Limit: 7, Type: 2, Present: true, Big: true}
	down := api.Desc{Limit: 7, Type: 6, Present: true, Big: true}
	flat := api.Desc{Limit: 0xFFFFFFFF, Type: 2, Present: true, Big: true}
	smallDown := api.Desc{Limit: 7, Type: 6, Present: true}
	nothingDown := api.Desc{Limit: 0xFFFFFFFF, Type: 6, Present: true, Big: true}
	code := api.Desc{Limit: 7, Type: 10, Present: true, Big: true}
	hidden := api.Desc{Limit: 7, Type: 8, Present: true, Big: true}
	fixed := api.Desc{Limit: 7, Type: 0, Present: true, Big: true}
	gone := api.Desc{Limit: 7, Type: 2, Big: true}
	system := api.Desc{Limit: 7, Type: 2, System: true, Present: true, Big: true}
	for _, c := range []struct {
		d     api.Desc
		off   uint32
		size  int
		write bool
		want  bool
	}{
		{up, 4, 4, true, true}, {up, 5, 4, false, false}, {up, 0xFFFFFFFF, 2, false, false}, {up, 7, 1, true, true}, {up, 8, 1, true, false},
		{up, 0, 8, true, true}, {up, 1, 8, true, false}, {up, 0, 3, false, false}, {up, 0, 0, false, false}, {up, 0, -1, false, false},
		{down, 7, 1, false, false}, {down, 8, 4, false, true}, {down, 8, 4, true, true}, {down, 4, 4, false, false}, {down, 5, 4, false, false}, {down, 7, 2, false, false},
		{down, 0xFFFFFFFC, 4, true, true}, {down, 0xFFFFFFFD, 4, true, false}, {down, 0xFFFFFFFF, 1, true, true}, {down, 0xFFFFFFFF, 2, true, false},
		{smallDown, 0xFFFC, 4, true, true}, {smallDown, 0xFFFD, 4, true, false}, {smallDown, 0xFFFF, 1, false, true}, {smallDown, 0x10000, 1, false, false},
		{nothingDown, 0, 1, false, false}, {nothingDown, 0xFFFFFFFF, 1, false, false},
		{flat, 0xFFFFFFF8, 8, true, true}, {flat, 0xFFFFFFF9, 8, true, false}, {flat, 0xFFFFFFFF, 1, true, true}, {flat, 0xFFFFFFFF, 2, true, false},
		{code, 0, 4, false, true}, {code, 0, 4, true, false}, {hidden, 0, 4, false, false}, {hidden, 0, 4, true, false},
		{fixed, 0, 4, false, true}, {fixed, 0, 4, true, false}, {gone, 0, 1, false, false}, {gone, 0, 1, true, false}, {system, 0, 1, false, false}, {system, 0, 1, true, false},
	} {
		if let := Reach(c.d, c.off, c.size, c.write); let != c.want {
			t.Errorf("%+v: %v", c, let)
		}
	}
}

// P8.2: every Type, mark, size and way, at and around each Limit and the ends; what the Base and Dpl are does not matter.
func TestReachOfAll(t *testing.T) {
	for kind := range 16 {
		for n, limit := range limits {
			base, dpl := bases[n%len(bases)], rings[n%len(rings)]
			for _, d := range marked(api.Desc{Base: base, Limit: limit, Type: kind, Dpl: dpl}) {
				for _, off := range offsets(limit) {
					for _, size := range rightSizes {
						checkReach(t, d, off, size, false)
						checkReach(t, d, off, size, true)
					}
				}
			}
		}
	}
}

// P8.2: a Type that is not 0 to 15 lets nothing, where one cut to four bits would let it.
func TestReachOfWrongTypes(t *testing.T) {
	for _, kind := range wrongTypes {
		for _, limit := range []uint32{0, 7, 0xFFFF, 0xFFFFFFFF} {
			for _, d := range marked(api.Desc{Limit: limit, Type: kind}) {
				for _, off := range []uint32{0, 8, limit, limit + 1, 0xFFFF, 0xFFFFFFFF} {
					for _, size := range rightSizes {
						if Reach(d, off, size, false) || Reach(d, off, size, true) {
							t.Fatalf("Reach(%+v, %#x, %d) is true", d, off, size)
						}
					}
				}
			}
		}
	}
}

// P8.2: sizes that are none, where every byte would be let, and elsewhere.
func TestReachOfWrongSizes(t *testing.T) {
	for kind := range 16 {
		for _, limit := range limits {
			for _, d := range marked(api.Desc{Limit: limit, Type: kind}) {
				for _, off := range []uint32{0, 1, 7, limit - 1, limit, limit + 1, 0xFFF0, 0xFFFFFFF0, 0xFFFFFFFF} {
					for _, size := range wrongSizes {
						if Reach(d, off, size, false) || Reach(d, off, size, true) {
							t.Fatalf("Reach(%+v, %#x, %d) is true", d, off, size)
						}
					}
				}
			}
		}
	}
}

// P8.5: what a segment that goes up lets at an offset it lets beneath it, with the same end or a lower one.
func TestReachBeneath(t *testing.T) {
	for _, kind := range []int{0, 1, 2, 3, 10, 11, 14, 15} {
		for _, limit := range limits {
			for _, big := range both {
				d := api.Desc{Limit: limit, Type: kind, Present: true, Big: big}
				checkBeneath(t, d, kind == 2 || kind == 3)
			}
		}
	}
}

func checkBeneath(t *testing.T, d api.Desc, write bool) {
	t.Helper()
	let := 0
	for _, off := range offsets(d.Limit) {
		for _, size := range rightSizes {
			if !Reach(d, off, size, write) {
				continue
			}
			let++
			for _, lower := range []uint32{0, 1, off / 3, off / 2, off - 9, off - 8, off - 4, off - 2, off - 1, off} {
				for _, other := range rightSizes {
					end, lowerEnd := uint64(off)+uint64(size), uint64(lower)+uint64(other)
					if lower <= off && lowerEnd <= end && !Reach(d, lower, other, write) {
						t.Fatalf("%+v: %#x, %d is let, %#x, %d is not", d, off, size, lower, other)
					}
				}
			}
		}
	}
	if let == 0 {
		t.Fatalf("%+v lets nothing", d)
	}
}

func modelFit(reg int, sel uint16, d api.Desc, cpl int) int {
	seg, rpl := modelIs(d), int(sel%4)
	if reg == 2 {
		switch {
		case rpl != cpl, d.Dpl != cpl, !(seg.data && seg.writable):
			return 13
		case !d.Present:
			return 12
		}
		return -1
	}
	switch {
	case reg != 0 && reg != 3 && reg != 4 && reg != 5:
		return 13
	case !seg.data && !(seg.code && seg.readable):
		return 13
	case !(seg.code && seg.conforming) && (cpl > d.Dpl || rpl > d.Dpl):
		return 13
	case !d.Present:
		return 11
	}
	return -1
}

func modelCode(sel uint16, d api.Desc, cpl int) int {
	seg, rpl := modelIs(d), int(sel%4)
	switch {
	case !seg.code || !d.Big:
		return 13
	case seg.conforming && d.Dpl > cpl:
		return 13
	case !seg.conforming && d.Dpl != cpl:
		return 13
	case !seg.conforming && rpl > cpl:
		return 13
	case !d.Present:
		return 11
	}
	return -1
}

var (
	registers      = []int{0, 1, 2, 3, 4, 5}
	wrongRegisters = append([]int{-6, -5, -4, -3, -2, -1, 6, 7, 8, 9, 16}, farOut...)
	uppers         = []uint16{0, 4, 8, 0x10, 0x7FF8, 0x8000, 0xFFF8, 0xFFFC}
)

func checkFit(t *testing.T, reg int, sel uint16, d api.Desc, cpl int) {
	t.Helper()
	if v, want := Fit(reg, sel, d, cpl), modelFit(reg, sel, d, cpl); v != want {
		t.Fatalf("Fit(%d, %#x, %+v, %d) = %d; want %d", reg, sel, d, cpl, v, want)
	}
}

func checkCode(t *testing.T, sel uint16, d api.Desc, cpl int) {
	t.Helper()
	if v, want := Code(sel, d, cpl), modelCode(sel, d, cpl); v != want {
		t.Fatalf("Code(%#x, %+v, %d) = %d; want %d", sel, d, cpl, v, want)
	}
}

// P8.3: the chapter's examples, and others written out by hand.
func TestFitByHand(t *testing.T) {
	for _, c := range []struct {
		reg  int
		sel  uint16
		d    api.Desc
		cpl  int
		want int
	}{
		{3, 0x13, api.Desc{Type: 0, Present: true}, 0, 13},
		{2, 0x10, api.Desc{Type: 2}, 0, 12},
		{2, 0x10, api.Desc{Type: 2, Present: true}, 0, -1},
		{2, 0x10, api.Desc{Type: 6, Present: true}, 0, -1},
		{2, 0x10, api.Desc{Type: 0, Present: true}, 0, 13},
		{2, 0x10, api.Desc{Type: 10, Present: true}, 0, 13},
		{2, 0x11, api.Desc{Type: 2, Present: true}, 0, 13},
		{2, 0x10, api.Desc{Type: 2, Dpl: 1, Present: true}, 0, 13},
		{2, 0x13, api.Desc{Type: 2, Dpl: 3, Present: true}, 3, -1},
		{2, 0x12, api.Desc{Type: 2, Dpl: 3, Present: true}, 3, 13},
		{2, 0x13, api.Desc{Type: 2, Dpl: 3}, 3, 12},
		{2, 0x13, api.Desc{Type: 0, Dpl: 3}, 3, 13},
		{0, 0x10, api.Desc{Type: 0, Present: true}, 0, -1},
		{0, 0x10, api.Desc{Type: 0}, 0, 11},
		{3, 0x10, api.Desc{Type: 8, Present: true}, 0, 13},
		{3, 0x10, api.Desc{Type: 8}, 0, 13},
		{3, 0x10, api.Desc{Type: 10, Present: true}, 0, -1},
		{4, 0x13, api.Desc{Type: 10, Present: true}, 0, 13},
		{4, 0x13, api.Desc{Type: 10}, 0, 13},
		{5, 0x10, api.Desc{Type: 2, Dpl: 2, Present: true}, 3, 13},
		{5, 0x12, api.Desc{Type: 2, Dpl: 2, Present: true}, 2, -1},
		{5, 0x13, api.Desc{Type: 2, Dpl: 2, Present: true}, 2, 13},
		{5, 0x10, api.Desc{Type: 2, Dpl: 3, Present: true}, 1, -1},
		{3, 0x13, api.Desc{Type: 14, Present: true}, 3, -1},
		{3, 0x13, api.Desc{Type: 14}, 3, 11},
		{3, 0x13, api.Desc{Type: 12, Present: true}, 3, 13},
		{3, 0x13, api.Desc{Type: 6, Present: true}, 3, 13},
		{3, 0x10, api.Desc{Type: 2, System: true, Present: true}, 0, 13},
		{1, 0x10, api.Desc{Type: 10, Present: true, Big: true}, 0, 13},
		{1, 0x10, api.Desc{Type: 2, Present: true}, 0, 13},
		{1, 0x10, api.Desc{Type: 2}, 0, 13},
		{6, 0x10, api.Desc{Type: 2, Present: true}, 0, 13},
		{6, 0x10, api.Desc{Type: 2}, 0, 13},
		{-1, 0x10, api.Desc{Type: 2, Present: true}, 0, 13},
	} {
		if v := Fit(c.reg, c.sel, c.d, c.cpl); v != c.want {
			t.Errorf("%+v: %d", c, v)
		}
	}
}

// P8.4, written out by hand.
func TestCodeByHand(t *testing.T) {
	for _, c := range []struct {
		sel  uint16
		d    api.Desc
		cpl  int
		want int
	}{
		{8, api.Desc{Type: 8, Present: true, Big: true}, 0, -1},
		{8, api.Desc{Type: 11, Present: true, Big: true}, 0, -1},
		{8, api.Desc{Type: 8, Big: true}, 0, 11},
		{8, api.Desc{Type: 8, Present: true}, 0, 13},
		{8, api.Desc{Type: 8}, 0, 13},
		{8, api.Desc{Type: 2, Present: true, Big: true}, 0, 13},
		{8, api.Desc{Type: 8, System: true, Present: true, Big: true}, 0, 13},
		{9, api.Desc{Type: 8, Present: true, Big: true}, 0, 13},
		{9, api.Desc{Type: 8, Big: true}, 0, 13},
		{8, api.Desc{Type: 8, Dpl: 3, Present: true, Big: true}, 3, -1},
		{11, api.Desc{Type: 8, Dpl: 3, Present: true, Big: true}, 3, -1},
		{8, api.Desc{Type: 8, Dpl: 3, Present: true, Big: true}, 0, 13},
		{8, api.Desc{Type: 8, Dpl: 0, Present: true, Big: true}, 3, 13},
		{8, api.Desc{Type: 12, Dpl: 0, Present: true, Big: true}, 3, -1},
		{11, api.Desc{Type: 12, Dpl: 0, Present: true, Big: true}, 0, -1},
		{8, api.Desc{Type: 12, Dpl: 1, Present: true, Big: true}, 0, 13},
		{8, api.Desc{Type: 12, Dpl: 1, Big: true}, 0, 13},
		{8, api.Desc{Type: 14, Dpl: 1, Present: true, Big: true}, 1, -1},
		{8, api.Desc{Type: 14, Dpl: 1, Big: true}, 1, 11},
		{8, api.Desc{Type: 14, Dpl: 1, Present: true}, 1, 13},
	} {
		if v := Code(c.sel, c.d, c.cpl); v != c.want {
			t.Errorf("%+v: %d", c, v)
		}
	}
}

// P8.3, P8.4: every Type, mark, Dpl, ring, and lowest two bits of sel, of every register; Base, Limit and what else sel has do not matter.
func TestFitAndCodeOfAll(t *testing.T) {
	n := 0
	for kind := range 16 {
		for _, dpl := range rings {
			for _, d := range marked(api.Desc{Type: kind, Dpl: dpl}) {
				for _, cpl := range rings {
					for sel := range uint16(4) {
						n++
						d.Base, d.Limit = bases[n%len(bases)], limits[n%len(limits)]
						for _, upper := range uppers {
							for _, reg := range registers {
								checkFit(t, reg, upper+sel, d, cpl)
							}
							checkCode(t, upper+sel, d, cpl)
						}
					}
				}
			}
		}
	}
}

// P8.3, P8.4: a Type that is not 0 to 15 is neither code nor data, and refused ahead of what is not there.
func TestFitAndCodeOfWrongTypes(t *testing.T) {
	for _, kind := range wrongTypes {
		for _, dpl := range rings {
			for _, d := range marked(api.Desc{Limit: 0xFFFF, Type: kind, Dpl: dpl}) {
				for _, cpl := range rings {
					for sel := range uint16(4) {
						for _, reg := range registers {
							if v := Fit(reg, 8+sel, d, cpl); v != 13 {
								t.Fatalf("Fit(%d, %#x, %+v, %d) = %d", reg, 8+sel, d, cpl, v)
							}
						}
						if v := Code(8+sel, d, cpl); v != 13 {
							t.Fatalf("Code(%#x, %+v, %d) = %d", 8+sel, d, cpl, v)
						}
					}
				}
			}
		}
	}
}

// P8.3: numbers that are no segment registers, whatever else would fit.
func TestFitOfWrongRegisters(t *testing.T) {
	for _, reg := range append([]int{1}, wrongRegisters...) {
		for kind := range 16 {
			for _, ring := range rings {
				for _, d := range marked(api.Desc{Limit: 0xFFFF, Type: kind, Dpl: ring}) {
					if v := Fit(reg, 8+uint16(ring), d, ring); v != 13 {
						t.Fatalf("Fit(%d, %d, %+v, %d) = %d", reg, 8+ring, d, ring, v)
					}
				}
			}
		}
	}
}

// P8.3, P8.4: rings and Dpls far out are held against each other as the numbers that they are.
func TestFitAndCodeOfWrongRings(t *testing.T) {
	for kind := range 16 {
		for _, dpl := range allRings {
			for _, d := range marked(api.Desc{Limit: 0xFFFF, Type: kind, Dpl: dpl}) {
				for _, cpl := range allRings {
					for sel := range uint16(4) {
						for _, reg := range registers {
							checkFit(t, reg, 8+sel, d, cpl)
						}
						checkCode(t, 8+sel, d, cpl)
					}
				}
			}
		}
	}
}

// R1: no structure, however wrong, makes a call panic; each answers as the chapter's words say of the numbers.
func TestNothingPanics(t *testing.T) {
	for _, kind := range wrongTypes {
		for _, ring := range wrongRings {
			for _, d := range marked(api.Desc{Base: 0xFFFFFFFF, Limit: 0xFFFFFFFF, Type: kind, Dpl: ring}) {
				checkNoPack(t, d)
				for _, size := range []int{1, 8, -1 << 63, 1<<63 - 1} {
					checkReach(t, d, 0xFFFFFFFF, size, true)
				}
				checkFit(t, ring, 0xFFFF, d, ring)
				checkCode(t, 0xFFFF, d, ring)
			}
		}
	}
}
