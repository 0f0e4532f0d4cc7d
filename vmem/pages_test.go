package vmem

import (
	"bytes"
	"testing"

	"drawloom/api"
)

const (
	used  = 1 << 5
	dirty = 1 << 6
)

// asks is one call at an address, with a DS that is flat.
func asks(name string, at uint32, size int) call {
	return call{name: name, seg: api.Ds, at: at, size: size, v: 0xD4C3B2A1}
}

// codeOf is the document's rule for one page, written down anew: -1, if the call may.
func codeOf(pde, pte uint32, write, user, wp bool) int {
	code := 0
	if write {
		code += 2
	}
	if user {
		code += 4
	}
	switch {
	case pde%2 == 0 || pte%2 == 0:
		return code
	case user && pde&pte&4 == 0:
		return code + 1
	case write && pde&pte&2 == 0 && (user || wp):
		return code + 1
	}
	return -1
}

// marked are the two words behind a call that may.
func marked(pde, pte uint32, write bool) (uint32, uint32) {
	pde |= used
	pte |= used
	if write {
		pte |= dirty
	}
	return pde, pte
}

// P16.2 to P16.5: every word of either table, every ring, with WP and without, by each call: the code, Cr2, and the marks.
func TestEveryPage(t *testing.T) {
	r := newPaged(t)
	for n := range 8 * 8 * 4 * 2 {
		low, bits, ring, wp := n%8, n/8%8, n/64%4, n/256 == 1
		pde, pte := lowest|uint32(low), 0x6000|uint32(bits)
		r.ring(ring)
		r.protect(wp)
		for _, name := range names {
			r.lay(first, pde)
			r.page(0x5000, pte)
			r.lay(0x6120, 0x44332211)
			x := asks(name, 0x5120, 4)
			code := codeOf(pde, pte, x.writes(), ring == 3 && !x.itself(), wp)
			if code >= 0 {
				r.faults(x, pageFault(code, 0x5120))
				continue
			}
			r.does(x, r.letAtPage(name))
			usedPde, usedPte := marked(pde, pte, x.writes())
			r.is(first, usedPde)
			r.is(second(0x5000), usedPte)
			want := uint32(0x44332211)
			if name == "Store" || name == "SetSys" {
				want = 0xD4C3B2A1
			}
			r.is(0x6120, want)
		}
		if t.Failed() {
			t.Fatalf("words %#x, %#x, ring %d, WP %v", pde, pte, ring, wp)
		}
	}
}

// letAtPage is the answer of a call that is let, where 0x44332211 lies at 0x6120.
func (r *rig) letAtPage(name string) answer {
	switch name {
	case "Load", "Sys":
		return answer{v: 0x44332211, f: none}
	case "Code":
		return answer{v: 0x11, at: 0x6120, f: none}
	}
	return answer{f: none}
}

// The same by hand, for what is most asked for: page words with what each ring gets.
func TestPagesByHand(t *testing.T) {
	const gone = -1
	for _, x := range []struct {
		name  string
		word  uint32
		ring  int
		wp    bool
		fault int
	}{
		{"Load", 0x6007, 3, true, gone}, {"Store", 0x6007, 3, true, gone}, {"Code", 0x6007, 3, true, gone},
		{"Load", 0x6006, 0, false, 0}, {"Load", 0x6006, 3, false, 4}, {"Load", 0x6006, 2, false, 0},
		{"Store", 0x6006, 0, false, 2}, {"Store", 0x6006, 3, false, 6}, {"Check", 0x6006, 3, false, 6},
		{"Code", 0x6006, 0, false, 0}, {"Code", 0x6006, 3, false, 4}, {"Sys", 0x6006, 3, false, 0}, {"SetSys", 0x6006, 3, false, 2},
		{"Load", 0x6005, 3, false, gone}, {"Store", 0x6005, 3, false, 7}, {"Check", 0x6005, 3, true, 7},
		{"Store", 0x6005, 0, false, gone}, {"Store", 0x6005, 1, false, gone}, {"Store", 0x6005, 2, false, gone},
		{"Store", 0x6005, 0, true, 3}, {"Store", 0x6005, 1, true, 3}, {"Store", 0x6005, 2, true, 3},
		{"SetSys", 0x6005, 3, false, gone}, {"SetSys", 0x6005, 3, true, 3}, {"SetSys", 0x6005, 0, true, 3},
		{"Load", 0x6003, 3, false, 5}, {"Load", 0x6003, 2, false, gone}, {"Load", 0x6003, 1, false, gone}, {"Load", 0x6003, 0, false, gone},
		{"Store", 0x6003, 3, false, 7}, {"Store", 0x6003, 2, true, gone}, {"Code", 0x6003, 3, false, 5}, {"Code", 0x6003, 0, false, gone},
		{"Sys", 0x6003, 3, false, gone}, {"SetSys", 0x6003, 3, true, gone}, {"Sys", 0x6001, 3, true, gone}, {"SetSys", 0x6001, 3, true, 3},
	} {
		for _, size := range sizes {
			r := newPaged(t)
			r.page(0x5000, x.word)
			r.ring(x.ring)
			r.protect(x.wp)
			for _, at := range []uint32{0x5000, 0x5ABC, 0x6000 - uint32(size)} {
				y := asks(x.name, at, size)
				if x.fault != gone {
					r.faults(y, pageFault(x.fault, at))
				} else if a := y.of(r.m, &r.c); a.f != none {
					t.Errorf("%+v of %+v: %+v; want no fault", y, x, a)
				}
			}
		}
	}
}

// The ring is that of CS's Sel: neither its Dpl nor another segment's Sel says it, nor whether CS is null.
func TestRingIsOfCodeSelector(t *testing.T) {
	r := newPaged(t)
	r.page(0x5000, 0x6003)
	for _, seg := range segments {
		r.c.Seg[seg].Sel = 0xFFFF
		r.c.Seg[seg].D.Dpl = 3
	}
	for _, sel := range []uint16{0, 8, 0xFFFC, 1, 0xFFFD, 2, 0xFFFE} {
		r.c.Seg[api.Cs].Sel = sel
		r.does(asks("Load", 0x5000, 4), answer{f: none})
		r.does(asks("Code", 0x5000, 1), answer{at: 0x6000, f: none})
	}
	for _, seg := range segments {
		r.c.Seg[seg].Sel = 0
		r.c.Seg[seg].D.Dpl = 0
	}
	r.c.Seg[api.Cs].Null = true
	for _, sel := range []uint16{3, 7, 0xFFFF, 0x1B} {
		r.c.Seg[api.Cs].Sel = sel
		r.faults(asks("Load", 0x5000, 4), pageFault(5, 0x5000))
		r.faults(asks("Store", 0x5000, 4), pageFault(7, 0x5000))
		r.faults(asks("Code", 0x5000, 1), pageFault(5, 0x5000))
		r.does(asks("Sys", 0x5000, 4), answer{f: none})
	}
}

// PG alone says that there are pages; what Cr3 has in its lowest bits says nothing; the first table is where Cr3 says.
func TestControlRegisters(t *testing.T) {
	r := newPaged(t)
	r.page(0x5000, 0x6007)
	r.lay(0x6008, 0x66666666)
	for _, cr0 := range []uint32{1 << 31, 1<<31 + 1, 0xFFFFFFFF} {
		for _, low := range []uint32{0, 8, 0x18, 0xFFF} {
			r.c.Cr0, r.c.Cr3 = cr0, first+low
			r.does(asks("Load", 0x5008, 4), answer{v: 0x66666666, f: none})
		}
	}
	r.lay(0x8000, 0x9007)
	r.lay(0x9014, 0xA007)
	r.lay(0xA008, 0xAAAAAAAA)
	r.c.Cr3 = 0x8000
	r.does(asks("Load", 0x5008, 4), answer{v: 0xAAAAAAAA, f: none})
	r.c.Cr3 = first
	r.does(asks("Load", 0x5008, 4), answer{v: 0x66666666, f: none})
	r.c.Cr3 = 0x100000
	r.does(asks("Load", 0x5008, 4), answer{v: 0xFFFFFFFF, f: none})
	r.c.Cr0 = 0x7FFFFFFF
	r.lay(0x5008, 0x55555555)
	r.does(asks("Load", 0x5008, 4), answer{v: 0x55555555, f: none})
}

// A page's frame may lie above memory, and the gate holds of frames and tables too.
func TestFramesAboveMemoryAndGate(t *testing.T) {
	r := newPaged(t)
	r.page(0x5000, 0x106007)
	r.lay(0x6010, 0x66666666)
	r.does(asks("Load", 0x5010, 4), answer{v: 0xFFFFFFFF, f: none})
	r.does(asks("Store", 0x5010, 4), answer{f: none})
	r.does(asks("Code", 0x5010, 1), answer{v: 255, at: 0x106010, f: none})
	r.is(0x6010, 0x66666666)
	r.p.Gate(false)
	r.does(asks("Load", 0x5010, 4), answer{v: 0x66666666, f: none})
	r.does(asks("Code", 0x5010, 1), answer{v: 0x66, at: 0x106010, f: none})
	r.c.Cr3 |= 0x100000
	r.does(asks("Store", 0x5010, 4), answer{f: none})
	r.is(0x6010, 0xD4C3B2A1)
}

// twoPages is a rig whose pages 0x5000 and 0x6000 have frames far apart, the second one's below: bytes lie around both ends.
func twoPages(t *testing.T) *rig {
	r := newPaged(t)
	r.page(0x5000, 0xC007)
	r.page(0x6000, 0x7007)
	r.p.Load(0xCFFC, []byte{0x11, 0x12, 0x13, 0x14, 0xEE})
	r.p.Load(0x6FFF, []byte{0xEE, 0x21, 0x22, 0x23, 0x24})
	return r
}

// Each way that a value lies in two pages.
var splits = []struct {
	at     uint32
	size   int
	v      uint32
	firsts []byte // of 0xD4C3B2A1, in the first page from at on
	rest   []byte
}{
	{0x5FFF, 2, 0x2114, []byte{0xA1}, []byte{0xB2}},
	{0x5FFF, 4, 0x23222114, []byte{0xA1}, []byte{0xB2, 0xC3, 0xD4}},
	{0x5FFE, 4, 0x22211413, []byte{0xA1, 0xB2}, []byte{0xC3, 0xD4}},
	{0x5FFD, 4, 0x21141312, []byte{0xA1, 0xB2, 0xC3}, []byte{0xD4}},
}

// Values in two pages are read and written at both frames; both pages are marked.
func TestTwoPages(t *testing.T) {
	for _, x := range splits {
		for _, name := range []string{"Load", "Sys"} {
			r := twoPages(t)
			r.does(asks(name, x.at, x.size), answer{v: x.v, f: none})
			r.is(second(0x5000), 0xC007|used)
			r.is(second(0x6000), 0x7007|used)
		}
		for _, name := range []string{"Store", "SetSys", "Check"} {
			r := twoPages(t)
			was := r.p.Dump(0x4000, 0xC000)
			r.does(asks(name, x.at, x.size), answer{f: none})
			r.is(second(0x5000), 0xC007|used|dirty)
			r.is(second(0x6000), 0x7007|used|dirty)
			if name != "Check" {
				copy(was[x.at-0x5000+0xC000-0x4000:], x.firsts)
				copy(was[0x7000-0x4000:], x.rest)
				r.does(asks("Load", x.at, x.size), answer{v: cut(0xD4C3B2A1, x.size), f: none})
			}
			if !bytes.Equal(r.p.Dump(0x4000, 0xC000), was) {
				t.Errorf("%s at %#x, size %d: the bytes are not those that should be", name, x.at, x.size)
			}
		}
	}
}

// A value that ends with its page does not ask for the next one, which is not there.
func TestValuesThatEndWithTheirPage(t *testing.T) {
	r := newPaged(t)
	r.page(0x5000, 0x6007)
	r.lay(0x6FFC, 0x44332211)
	for _, x := range []struct {
		size int
		v    uint32
	}{{1, 0x44}, {2, 0x4433}, {4, 0x44332211}} {
		at := 0x6000 - uint32(x.size)
		r.does(asks("Load", at, x.size), answer{v: x.v, f: none})
		r.does(asks("Sys", at, x.size), answer{v: x.v, f: none})
		r.does(asks("Check", at, x.size), answer{f: none})
	}
}

// Faults of two pages: of the first one, of the second one, of both: whose code, and whose Cr2; and the marks of the first one stay.
func TestFaultsInTwoPages(t *testing.T) {
	for _, x := range splits {
		for _, wp := range both {
			for ring := range 4 {
				for n := range 64 {
					one, two := 0xC000|uint32(n%8), 0x7000|uint32(n/8)
					for _, name := range []string{"Load", "Check", "Store", "Sys", "SetSys"} {
						r := twoPages(t)
						r.page(0x5000, one)
						r.page(0x6000, two)
						r.ring(ring)
						r.protect(wp)
						r.asksTwo(asks(name, x.at, x.size), one, two, ring, wp)
						if t.Failed() {
							t.Fatalf("pages %#x, %#x, ring %d, WP %v", one, two, ring, wp)
						}
					}
				}
			}
		}
	}
}

// asksTwo holds one call at the end of page 0x5000 against the rule for both pages.
func (r *rig) asksTwo(x call, one, two uint32, ring int, wp bool) {
	r.t.Helper()
	user := ring == 3 && !x.itself()
	codeOne := codeOf(7, one, x.writes(), user, wp)
	codeTwo := codeOf(7, two, x.writes(), user, wp)
	if codeOne >= 0 {
		r.faults(x, pageFault(codeOne, x.at))
		r.is(first, lowest|7)
		return
	}
	_, one = marked(0, one, x.writes())
	was := r.p.Dump(0x4000, 0xC000)
	a := x.of(r.m, &r.c)
	r.is(first, lowest|7|used)
	r.is(second(0x5000), one)
	if codeTwo < 0 {
		if a.f != none {
			r.t.Errorf("%+v: %+v; want no fault", x, a)
		}
		return
	}
	if a != (answer{f: pageFault(codeTwo, 0x6000)}) {
		r.t.Errorf("%+v: %+v; want code %d", x, a, codeTwo)
	}
	r.is(second(0x6000), two)
	if !bytes.Equal(r.p.Dump(0x4000, 0xC000), was) {
		r.t.Errorf("%+v: bytes were written beside a fault", x)
	}
}

// The same by hand: what each of two pages' faults tells.
func TestFaultsInTwoPagesByHand(t *testing.T) {
	for _, x := range []struct {
		one, two uint32
		f        api.Fault
		left     uint32
	}{
		{0xC006, 0x7007, pageFault(6, 0x5FFE), 0xC006},
		{0xC007, 0x7006, pageFault(6, 0x6000), 0xC067},
		{0xC005, 0x7006, pageFault(7, 0x5FFE), 0xC005},
		{0xC007, 0x7005, pageFault(7, 0x6000), 0xC067},
		{0xC007, 0x7003, pageFault(7, 0x6000), 0xC067},
		{0xC006, 0x7003, pageFault(6, 0x5FFE), 0xC006},
		{0xC0E7, 0x7006, pageFault(6, 0x6000), 0xC0E7},
	} {
		for _, name := range []string{"Check", "Store"} {
			r := twoPages(t)
			r.ring(3)
			r.page(0x5000, x.one)
			r.page(0x6000, x.two)
			r.does(asks(name, 0x5FFE, 4), answer{f: x.f})
			r.is(second(0x5000), x.left)
			r.is(second(0x6000), x.two)
			r.bytesAt(0xCFFC, 0x11, 0x12, 0x13, 0x14)
			r.bytesAt(0x7000, 0x21, 0x22, 0x23, 0x24)
		}
	}
	r := twoPages(t)
	r.page(0x6000, 0x7006)
	r.does(asks("Load", 0x5FFD, 4), answer{f: pageFault(0, 0x6000)})
	r.is(second(0x5000), 0xC027)
}

// Two pages of two second tables: the second one's first word is marked only if there is no fault.
func TestTwoTables(t *testing.T) {
	lay := func(pde, pte uint32) *rig {
		r := newPaged(t)
		r.lay(first+4, 0x9000|pde)
		r.page(0x3FF000, 0xC007)
		r.lay(0x9000, 0x7000|pte)
		r.lay(0xCFFC, 0x14131211)
		r.lay(0x7000, 0x24232221)
		return r
	}
	for _, x := range []struct{ pde, pte uint32 }{{6, 7}, {7, 6}, {5, 7}, {7, 5}} {
		r := lay(x.pde, x.pte)
		r.protect(true)
		code := 2
		if x.pde&x.pte&1 != 0 {
			code = 3
		}
		r.does(asks("Store", 0x3FFFFE, 4), answer{f: pageFault(code, 0x400000)})
		r.is(first, lowest|7|used)
		r.is(second(0x3FF000), 0xC007|used|dirty)
		r.is(first+4, 0x9000|x.pde)
		r.is(0x9000, 0x7000|x.pte)
		r.is(0xCFFC, 0x14131211)
		r.is(0x7000, 0x24232221)
	}
	r := lay(7, 7)
	r.does(asks("Load", 0x3FFFFE, 4), answer{v: 0x22211413, f: none})
	r.does(asks("Store", 0x3FFFFE, 4), answer{f: none})
	r.is(first+4, 0x9000|7|used)
	r.is(0x9000, 0x7000|7|used|dirty)
	r.is(0xCFFC, 0xB2A11211)
	r.is(0x7000, 0x2423D4C3)
}

// From the last page a value goes on in page 0: Cr2 of a fault there is 0.
func TestFromLastPageToFirst(t *testing.T) {
	lay := func(last, zero uint32) *rig {
		r := newPaged(t)
		r.page(0xFFFFF000, 0xC000|last)
		r.page(0, 0x7000|zero)
		r.lay(0xCFFC, 0x14131211)
		r.lay(0x7000, 0x24232221)
		r.c.Seg[api.Gs].D.Base = 0xFFFFFFF0
		return r
	}
	value := func(name string) call {
		if name == "Sys" || name == "SetSys" {
			return asks(name, 0xFFFFFFFE, 4)
		}
		return call{name: name, seg: api.Gs, at: 0xE, size: 4, v: 0xD4C3B2A1}
	}
	for _, name := range []string{"Load", "Sys"} {
		lay(7, 7).does(value(name), answer{v: 0x22211413, f: none})
		lay(7, 6).does(value(name), answer{f: pageFault(0, 0)})
		lay(6, 6).faults(value(name), pageFault(0, 0xFFFFFFFE))
		lay(6, 7).faults(value(name), pageFault(0, 0xFFFFFFFE))
	}
	for _, name := range []string{"Store", "SetSys"} {
		r := lay(7, 7)
		r.does(value(name), answer{f: none})
		r.is(0xCFFC, 0xB2A11211)
		r.is(0x7000, 0x2423D4C3)
		r = lay(7, 6)
		r.does(value(name), answer{f: pageFault(2, 0)})
		r.is(second(0xFFFFF000), 0xC067)
		r.is(0xCFFC, 0x14131211)
		r.is(0x7000, 0x24232221)
		lay(6, 7).faults(value(name), pageFault(2, 0xFFFFFFFE))
	}
	lay(7, 6).does(value("Check"), answer{f: pageFault(2, 0)})
}

// Two pages of one frame: the second part begins at the frame's start.
func TestTwoPagesOfOneFrame(t *testing.T) {
	r := newPaged(t)
	r.page(0x5000, 0xC007)
	r.page(0x6000, 0xC007)
	r.does(asks("Store", 0x5FFF, 4), answer{f: none})
	r.bytesAt(0xCFFF, 0xA1)
	r.bytesAt(0xC000, 0xB2, 0xC3, 0xD4, 0)
	r.does(asks("Load", 0x5FFF, 4), answer{v: 0xD4C3B2A1, f: none})
	r.does(asks("Load", 0x5000, 4), answer{v: 0x00D4C3B2, f: none})
}

// All pages are found ahead of any byte: a value that is stored in the tables' own words does not change where its rest goes.
func TestStoreIntoTables(t *testing.T) {
	r := newPaged(t)
	r.page(0x5000, 0x7007)
	r.page(0x6000, lowest|7)
	r.page(0, 0xE007)
	// The word at 0x2000 is page 0's; a value that ends there begins in page 0x5000.
	r.does(call{name: "Store", seg: api.Ds, at: 0x5FFE, size: 4, v: 0x8007FFFF}, answer{f: none})
	r.is(lowest, 0x8007)
	r.lay(0x8000, 0x88888888)
	r.does(asks("Load", 0, 4), answer{v: 0x88888888, f: none})
	// A page whose word is written by the value's first bytes is the second one of the same value.
	r.page(0x9000, lowest|7)
	r.page(0xA000, 0xB007)
	r.does(call{name: "Store", seg: api.Ds, at: 0x9000 + 4*0xA, size: 4, v: 0xC007}, answer{f: none})
	r.is(second(0xA000), 0xC007)
	r.lay(0xC000, 0xCCCCCCCC)
	r.does(asks("Load", 0xA000, 4), answer{v: 0xCCCCCCCC, f: none})
}

// P16.6: Check has Store's fault, in whatever way a value lies; then it changes what Store changes then, and without a fault the marks alone.
func TestCheckIsStoreWithoutBytes(t *testing.T) {
	for n := range 8 * 8 * 4 * 2 {
		for _, at := range []uint32{0x5FFB, 0x5FFC, 0x5FFD, 0x5FFE, 0x5FFF, 0x6000} {
			for _, size := range sizes {
				lay := func() *rig {
					r := twoPages(t)
					r.page(0x5000, 0xC000|uint32(n%8))
					r.page(0x6000, 0x7000|uint32(n/8%8))
					r.ring(n / 64 % 4)
					r.protect(n/256 == 1)
					return r
				}
				check, store := lay(), lay()
				was := check.p.Dump(0x4000, 0xC000)
				a, b := asks("Check", at, size).of(check.m, &check.c), asks("Store", at, size).of(store.m, &store.c)
				if a != b {
					t.Fatalf("%d at %#x, size %d: Check %+v, Store %+v", n, at, size, a, b)
				}
				if !bytes.Equal(check.p.Dump(0, 0x4000), store.p.Dump(0, 0x4000)) {
					t.Fatalf("%d at %#x, size %d: the tables differ", n, at, size)
				}
				if !bytes.Equal(check.p.Dump(0x4000, 0xC000), was) {
					t.Fatalf("%d at %#x, size %d: Check wrote", n, at, size)
				}
				if same := bytes.Equal(store.p.Dump(0x4000, 0xC000), was); same != (b.f != none) {
					t.Fatalf("%d at %#x, size %d: Store tells %+v, and bytes stay: %v", n, at, size, b, same)
				}
			}
		}
	}
}

// P16.3: Sys and SetSys ask without a segment: whatever all six are, and from whatever ring.
func TestProcessorItself(t *testing.T) {
	for ring := range 4 {
		for _, size := range sizes {
			r := twoPages(t)
			for _, seg := range segments {
				r.c.Seg[seg] = api.SegReg{Null: true, D: api.Desc{Base: 0x1234, System: true}}
			}
			r.c.Seg[api.Cs].Sel = uint16(ring)
			r.page(0x5000, 0xC003)
			r.page(0x6000, 0x7001)
			for _, at := range []uint32{0x5100, 0x5FFF, 0x6100} {
				for _, wp := range both {
					r.protect(wp)
					write := asks("SetSys", at, size)
					lastByte := at + uint32(size) - 1
					if wp && lastByte >= 0x6000 {
						r.lay(second(0x5000), 0xC063)
						r.faults(write, pageFault(3, max(at, 0x6000)))
						continue
					}
					r.does(write, answer{f: none})
					r.does(asks("Sys", at, size), answer{v: cut(0xD4C3B2A1, size), f: none})
				}
			}
		}
	}
}

// P16.3: wrong sizes come ahead of the pages.
func TestProcessorItselfWrongSizes(t *testing.T) {
	r := newPaged(t)
	for _, name := range []string{"Sys", "SetSys"} {
		for _, size := range noSizes {
			for _, at := range []uint32{0, 0x5FFF, 0xFFFFFFFF} {
				r.faults(asks(name, at, size), protection)
			}
		}
	}
}

// P16.4: at the Limit, and above it: the Limit comes ahead of the page.
func TestCodeLimits(t *testing.T) {
	r := newPaged(t)
	r.page(0x5000, 0x6007)
	r.p.Load(0x6000, []byte{0x10, 0x11, 0x12, 0x13})
	r.c.Seg[api.Cs].D.Base = 0x5000
	for _, limit := range []uint32{0, 2, 0xFFF, 0x7FFFFFFF, 0xFFFFFFFE} {
		r.c.Seg[api.Cs].D.Limit = limit
		for _, off := range []uint32{limit + 1, 0xFFFFFFFF} {
			r.faults(asks("Code", off, 1), protection)
		}
		for off := range min(limit, 3) + 1 {
			r.does(asks("Code", off, 1), answer{v: 0x10 + off, at: 0x6000 + off, f: none})
		}
	}
	r.c.Seg[api.Cs].D.Limit = 0xFFFFFFFF
	r.page(0x4000, 0xC007)
	r.lay(0xCFFC, 0x14131211)
	r.does(asks("Code", 0xFFFFFFFF, 1), answer{v: 0x14, at: 0xCFFF, f: none})
	r.faults(asks("Code", 0x1000, 1), pageFault(0, 0x6000))
	r.faults(asks("Code", 0x1ABC, 1), pageFault(0, 0x6ABC))
}

// P16.4: what CS is else is not looked at: also one that goes down is asked for its Limit alone.
func TestCodeLooksAtLimitAlone(t *testing.T) {
	r := newPaged(t)
	r.page(0x5000, 0x6007)
	r.lay(0x6100, 0x44332211)
	for n := range 16 * 16 {
		r.c.Seg[api.Cs] = api.SegReg{Sel: uint16(n), Null: n&16 != 0, D: api.Desc{
			Base: 0x5000, Limit: 0x103, Type: n % 16, Dpl: n % 4,
			System: n&32 != 0, Present: n&64 != 0, Big: n&128 != 0,
		}}
		r.does(asks("Code", 0x100, 1), answer{v: 0x11, at: 0x6100, f: none})
		r.does(asks("Code", 0x103, 1), answer{v: 0x44, at: 0x6103, f: none})
		r.faults(asks("Code", 0x104, 1), protection)
	}
}

// P16.4: a page without Write: it is marked as used, and never as written; a page of ring 0 from ring 3 is not let.
func TestCodePages(t *testing.T) {
	r := newPaged(t)
	r.page(0x5000, 0x6001)
	for ring := range 3 {
		r.ring(ring)
		for _, wp := range both {
			r.protect(wp)
			r.page(0x5000, 0x6001)
			r.does(asks("Code", 0x5FFF, 1), answer{at: 0x6FFF, f: none})
			r.is(second(0x5000), 0x6001|used)
		}
	}
	r.ring(3)
	r.faults(asks("Code", 0x5FFF, 1), pageFault(5, 0x5FFF))
	r.page(0x5000, 0x6000)
	r.faults(asks("Code", 0x5FFF, 1), pageFault(4, 0x5FFF))
	r.page(0x5000, 0x6005)
	r.does(asks("Code", 0x5FFF, 1), answer{at: 0x6FFF, f: none})
	r.is(second(0x5000), 0x6005|used)
}

// P16.5: beside a fault nothing is told of bytes that are there, ahead of it and behind it.
func TestNothingBesideFaults(t *testing.T) {
	r := twoPages(t)
	r.page(0x6000, 0x7006)
	r.does(asks("Load", 0x5FFE, 4), answer{f: pageFault(0, 0x6000)})
	r.does(asks("Sys", 0x5FFE, 4), answer{f: pageFault(0, 0x6000)})
	r.does(asks("Code", 0x6000, 1), answer{f: pageFault(0, 0x6000)})
	r.c.Seg[api.Cs].D.Limit = 0x5FFE
	r.does(asks("Code", 0x5FFF, 1), answer{f: protection})
	if f := api.None(); f != none {
		t.Errorf("None is %+v", f)
	}
}
