package exec_test

import (
	"fmt"
	"math"
	"testing"

	"drawloom/api"
	"drawloom/exec"
)

func gp(code int) api.Fault { return api.Fault{Vec: 13, Code: code} }

// P17.2, Find: each entry of the table, whatever asks for it; nothing of the processor is changed.
func TestFind(t *testing.T) {
	for sel, x := range entries() {
		for ring := range uint16(4) {
			s := fresh()
			s.cpu.Seg[api.Cs].Sel |= ring
			e := s.env(t)
			for asks := range uint16(4) {
				d, f := exec.Find(e, sel|asks)
				if d != x.d || f != none.F {
					t.Errorf("%#x: %+v, %+v; want %+v", sel|asks, d, f, x.d)
				}
				d, f = exec.Find(e, sel|asks|4)
				if d != (api.Desc{}) || f != gp(int(sel)+4) {
					t.Errorf("%#x: %+v, %+v", sel|asks|4, d, f)
				}
			}
			stateOf(e, none).holds(t, "Find", s)
		}
	}
}

// P17.2, Find: at Gdt's Limit, one below it and one above it.
func TestFindAtTheLimit(t *testing.T) {
	for _, c := range []struct {
		sel, limit uint16
		is         bool
	}{
		{0x10, 0x17, true}, {0x10, 0x16, false}, {0x10, 0x18, true}, {0x13, 0x17, true}, {0x13, 0x16, false}, {0x10, 0x10, false}, {0x10, 0xF, false},
		{0x08, 0x0F, true}, {0x08, 0x0E, false}, {0x08, 0xFFFF, true}, {0, 7, true}, {0, 6, false}, {0, 0, false}, {3, 7, true},
		{0xFFF8, 0xFFFF, true}, {0xFFF8, 0xFFFE, false}, {0xFFFB, 0xFFFF, true}, {0x10, 0, false},
	} {
		s := fresh()
		s.cpu.Gdt.Limit = c.limit
		e := s.env(t)
		d, f := exec.Find(e, c.sel)
		if c.is && f != none.F || !c.is && (f != gp(int(c.sel)&^3) || d != api.Desc{}) {
			t.Errorf("%#x, the Limit %#x: %+v, %+v", c.sel, c.limit, d, f)
		}
	}
}

// P17.2, Find: the words' places, which go round; a null selector has words like others.
func TestWhereFindReads(t *testing.T) {
	for _, c := range []struct {
		base, lo, hi uint32
		sel          uint16
	}{
		{0x5000, 0x5010, 0x5014, 0x10}, {0x5000, 0x5010, 0x5014, 0x13}, {0x5001, 0x5011, 0x5015, 0x10}, {0x5000, 0x5000, 0x5004, 0}, {0x5000, 0x5000, 0x5004, 3},
		{0xFFFFF000, 0x5000, 0x5004, 0x6000}, {0xFFFFFFF8, 0, 4, 8}, {0xFFFFFFF4, 4, 8, 0x10}, {0x2000, 0xEFF8, 0xEFFC, 0xCFF8},
	} {
		s := fresh()
		s.cpu.Gdt = api.Table{Base: c.base, Limit: 0xFFFF}
		s.lay(c.lo, word(0x30000FFF)...)
		s.lay(c.hi, word(0x80409200)...)
		if d, f := exec.Find(s.env(t), c.sel); d != entries()[0xC0].d || f != none.F {
			t.Errorf("%+v: %+v, %+v", c, d, f)
		}
	}
}

// P17.2, Find: the processor itself reads, ahead of pages that fault, and marks those that do not.
func TestFindWithPages(t *testing.T) {
	for _, c := range []struct {
		before string
		sel    uint16
		f      api.Fault
		after  string
	}{
		{"B000:00000000", 0x10, api.Fault{Vec: 14, Code: 0, Cr2: 0x810}, ""},
		{"B000:00000000 ring=3", 0x10, api.Fault{Vec: 14, Code: 0, Cr2: 0x810}, ""},
		{"A000:00000000", 0xC3, api.Fault{Vec: 14, Code: 0, Cr2: 0x8C0}, ""},
		{"B000:63000000 ring=3", 0x10, none.F, ""},
		{"B000:07000000", 0x10, none.F, "B000:27000000"},
		{"B004:00000000 gdt.base=FEC", 0x10, api.Fault{Vec: 14, Code: 0, Cr2: 0x1000}, ""},
		{"B000:07000000 B004:00000000 gdt.base=FEC", 0x10, api.Fault{Vec: 14, Code: 0, Cr2: 0x1000}, "B000:27000000"},
		{"B000:00000000", 0x14, gp(0x14), ""},
		{"B000:00000000", 0xC8, gp(0xC8), ""},
	} {
		s := paged()
		s.apply(c.before)
		e := s.env(t)
		for range 2 {
			d, f := exec.Find(e, c.sel)
			if f != c.f || f != none.F && d != (api.Desc{}) {
				t.Errorf("%+v: %+v, %+v", c, d, f)
			}
		}
		s.apply(c.after)
		stateOf(e, none).holds(t, c.before, s)
	}
}

// P17.2, Load: of no segment register, and of CS, first of all.
func TestLoadOfNone(t *testing.T) {
	for _, seg := range []int{-1, api.Cs, 6, 7, 8, 256, 1 << 32, math.MinInt, math.MaxInt} {
		for _, sel := range []uint16{0, 3, 4, 8, 0x10, 0x30, 0xC8, 0xFFFF} {
			s := paged()
			s.apply("B000:00000000")
			e := s.env(t)
			if f := exec.Load(e, seg, sel); f != gp(0) {
				t.Errorf("Load(%d, %#x): %+v", seg, sel, f)
			}
			stateOf(e, none).holds(t, "Load", s)
		}
	}
}

// load holds Load of a register against what a state should be then; a fault leaves all as it was.
func load(t *testing.T, seg int, sel uint16, before, after string) {
	t.Helper()
	s := fresh()
	s.apply(before)
	e := s.env(t)
	want := s.clone()
	want.apply(after)
	f := exec.Load(e, seg, sel)
	stateOf(e, exec.Outcome{F: f, Soft: -1}).holds(t, fmt.Sprintf("Load(%d, %#x) of %q", seg, sel, before), want)
}

// P17.2, Load: null selectors; their numbers stay, and the table is not asked.
func TestLoadOfNull(t *testing.T) {
	for sel := range uint16(4) {
		for _, before := range []string{"", "gdt.limit=0", "ring=3", "800:FFFF00000092CF00"} {
			load(t, api.Ss, sel, before, "#GP(0)")
			for _, seg := range []int{api.Es, api.Ds, api.Fs, api.Gs} {
				load(t, seg, sel, before, fmt.Sprintf("%s=%x", segmentNames[seg], sel))
			}
		}
	}
}

// P17.2, Load: each descriptor, by its rights and the ring; of SS Shadow is set, of the others it stays.
func TestLoad(t *testing.T) {
	for _, seg := range []int{api.Es, api.Ds, api.Fs, api.Gs} {
		name := segmentNames[seg]
		for _, c := range []struct {
			sel           uint16
			before, after string
		}{
			{0x10, "", "10"}, {0x08, "", "8"}, {0x20, "", "20"}, {0x23, "", "23"}, {0x28, "", "28"}, {0x38, "", "38"}, {0x3B, "", "3B"}, {0x18, "", "18"}, {0x80, "", "80"}, {0x90, "", "90"}, {0x88, "", "88"}, {0x89, "", "89"}, {0xC0, "", "C0"}, {0x50, "", "50"},
			{0x10, "shadow", "10"}, {0x10, name + "=0", "10"},
			{0x13, "", "#GP(10)"}, {0x11, "", "#GP(10)"}, {0x8A, "", "#GP(88)"}, {0x0B, "", "#GP(8)"},
			{0x30, "", "#NP(30)"}, {0x31, "", "#GP(30)"}, {0x40, "", "#GP(40)"}, {0x48, "", "#NP(48)"}, {0x60, "", "#GP(60)"}, {0x78, "", "#GP(78)"}, {0xB0, "", "#NP(B0)"}, {0xB3, "", "#NP(B0)"}, {0xB8, "", "#NP(B8)"},
			{0x10, "ring=3", "#GP(10)"}, {0x10, "ring=1", "#GP(10)"}, {0x88, "ring=1", "88"}, {0x88, "ring=2", "#GP(88)"}, {0x20, "ring=3", "20"}, {0x23, "ring=3", "23"}, {0x38, "ring=3", "38"}, {0xB8, "ring=3", "#NP(B8)"},
			{0x14, "", "#GP(14)"}, {0x17, "", "#GP(14)"}, {0xC8, "", "#GP(C8)"}, {0xFFFF, "", "#GP(FFFC)"}, {0x10, "gdt.limit=16", "#GP(10)"}, {0x10, "gdt.limit=17", "10"},
		} {
			after := c.after
			if after[0] != '#' {
				after = name + "=" + after
			}
			load(t, seg, c.sel, c.before, after)
		}
	}
	for _, c := range []struct {
		sel           uint16
		before, after string
	}{
		{0x10, "", "ss=10 shadow"}, {0x10, "shadow", "ss=10 shadow"}, {0x10, "ss=0", "ss=10 shadow"}, {0xC0, "", "ss=C0 shadow"},
		{0x11, "", "#GP(10)"}, {0x20, "", "#GP(20)"}, {0x23, "", "#GP(20)"}, {0x28, "", "#GP(28)"}, {0x08, "", "#GP(8)"}, {0x60, "", "#GP(60)"}, {0x30, "", "#SS(30)"}, {0x31, "", "#GP(30)"}, {0xC8, "", "#GP(C8)"}, {0x14, "", "#GP(14)"},
		{0x23, "ring=3", "ss=23 shadow"}, {0x93, "ring=3", "ss=93 shadow"}, {0x20, "ring=3", "#GP(20)"}, {0x10, "ring=3", "#GP(10)"}, {0x13, "ring=3", "#GP(10)"}, {0xBB, "ring=3", "#SS(B8)"}, {0x89, "ring=1", "ss=89 shadow"}, {0x89, "ring=2", "#GP(88)"},
	} {
		load(t, api.Ss, c.sel, c.before, c.after)
	}
}

// P17.2, Load: a fault of reading the table is its fault, ahead of what the descriptor lets.
func TestLoadWithPages(t *testing.T) {
	for _, seg := range []int{api.Es, api.Ss, api.Ds, api.Fs, api.Gs} {
		for _, sel := range []uint16{0x10, 0x60, 0x30} {
			s := paged()
			s.apply("B000:00000000 ring=3")
			e := s.env(t)
			want := api.Fault{Vec: 14, Code: 0, Cr2: 0x800 + uint32(sel)}
			if f := exec.Load(e, seg, sel); f != want {
				t.Errorf("Load(%d, %#x): %+v", seg, sel, f)
			}
			stateOf(e, none).holds(t, "Load", s)
		}
	}
}
