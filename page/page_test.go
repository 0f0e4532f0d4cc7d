package page

import (
	"bytes"
	"slices"
	"testing"

	"drawloom/api"
	"drawloom/ram"
)

const line20 = 0x100000

var both = []bool{false, true}

// ways are all eight.
func ways() []api.Way {
	var out []api.Way
	for _, write := range both {
		for _, user := range both {
			for _, wp := range both {
				out = append(out, api.Way{Write: write, User: user, Wp: wp})
			}
		}
	}
	return out
}

// memory is memory, and what a model has to know of it.
type memory struct {
	m      *ram.Ram
	closed bool
	only   []int // pages that can only be read
}

func newMemory(t *testing.T, pages int, closed bool, only ...int) memory {
	t.Helper()
	m, err := ram.New(pages)
	if err != api.OK {
		t.Fatalf("ram.New(%d): %v", pages, err)
	}
	m.Gate(!closed)
	for _, p := range only {
		if err := m.Rom(p, true); err != api.OK {
			t.Fatalf("Rom(%d): %v", p, err)
		}
	}
	return memory{m, closed, only}
}

// lay lays a word, also where nothing may be written.
func (x memory) lay(at, word uint32) {
	x.m.Load(at, []byte{byte(word), byte(word >> 8), byte(word >> 16), byte(word >> 24)})
}

func (x memory) word(at uint32) uint32 {
	v, _ := x.m.Read(at, 4)
	return v
}

// all are the bytes by their places: where the gate is closed, those of odd megabytes are not told twice.
func (x memory) all() []byte { return x.m.Dump(0, x.m.Len()) }

// model reckons in whole numbers, on bytes of its own.
type model struct {
	bytes  []byte
	closed bool
	only   []int
	laid   []uint32 // the granules in which a byte was written
}

func modelOf(x memory) *model { return &model{bytes: x.all(), closed: x.closed, only: x.only} }

// place is below 0 where there is no byte.
func (m *model) place(at uint64) int {
	if m.closed && at/line20%2 == 1 {
		at -= line20
	}
	if at >= uint64(len(m.bytes)) {
		return -1
	}
	return int(at)
}

func (m *model) read(at uint64) uint64 {
	out := uint64(0)
	for i := 3; i >= 0; i-- {
		out *= 256
		if p := m.place(at + uint64(i)); p >= 0 {
			out += uint64(m.bytes[p])
		} else {
			out += 255
		}
	}
	return out
}

func (m *model) write(at, word uint64) {
	p := m.place(at)
	if p < 0 || slices.Contains(m.only, p/4096) {
		return
	}
	for i := range 4 {
		m.bytes[p+i] = byte(word % 256)
		word /= 256
	}
	if g := uint32(p / 64 * 64); !slices.Contains(m.laid, g) {
		m.laid = append(m.laid, g)
	}
}

// bit tells whether a bit, by its worth, is set.
func bit(word, worth uint64) bool { return word/worth%2 == 1 }

// set adds bits' worths, where they are not there.
func (m *model) set(at uint64, worths ...uint64) {
	was := m.read(at)
	is := was
	for _, w := range worths {
		if !bit(is, w) {
			is += w
		}
	}
	if is != was {
		m.write(at, is)
	}
}

func (m *model) find(cr3, lin uint32, w api.Way) (api.Walk, int) {
	code := 0
	if w.Write {
		code += 2
	}
	if w.User {
		code += 4
	}
	pde := uint64(cr3)/4096*4096 + uint64(lin)/4194304*4
	first := m.read(pde)
	if !bit(first, 1) {
		return api.Walk{}, code
	}
	pte := first/4096*4096 + uint64(lin)/4096%1024*4
	second := m.read(pte)
	if !bit(second, 1) {
		return api.Walk{}, code
	}
	walk := api.Walk{
		Frame: uint32(second / 4096 * 4096),
		Pde:   uint32(pde),
		Pte:   uint32(pte),
		Write: bit(first, 2) && bit(second, 2),
		User:  bit(first, 4) && bit(second, 4),
	}
	if w.User && !walk.User {
		return api.Walk{}, code + 1
	}
	if w.Write && !walk.Write && (w.User || w.Wp) {
		return api.Walk{}, code + 1
	}
	m.set(pde, 32)
	if w.Write {
		m.set(pte, 32, 64)
	} else {
		m.set(pte, 32)
	}
	return walk, -1
}

// watchAll watches every granule, and forgets what was noted till then.
func watchAll(m *ram.Ram) {
	for at := 0; at < m.Len(); at += api.Granule {
		m.Watch(uint32(at))
	}
	m.Written()
}

// check holds one call, and the memory behind it, against the model; only the granules that it writes are noted. It tells the answer.
func check(t *testing.T, x memory, cr3, lin uint32, w api.Way) (api.Walk, int) {
	t.Helper()
	want := modelOf(x)
	watchAll(x.m)
	walk, code := want.find(cr3, lin, w)
	isWalk, isCode, err := Find(x.m, cr3, lin, w)
	if isWalk != walk || isCode != code || err != api.OK {
		t.Errorf("Find(cr3 %#x, lin %#x, %+v) = %+v, %d, %v; want %+v, %d", cr3, lin, w, isWalk, isCode, err, walk, code)
	}
	if !bytes.Equal(x.all(), want.bytes) {
		t.Errorf("Find(cr3 %#x, lin %#x, %+v): memory is not as it should be", cr3, lin, w)
	}
	slices.Sort(want.laid)
	if noted := x.m.Written(); !slices.Equal(noted, want.laid) {
		t.Errorf("Find(cr3 %#x, lin %#x, %+v) wrote in %#x; want %#x", cr3, lin, w, noted, want.laid)
	}
	return isWalk, isCode
}

// examples is the memory of the chapter's examples.
func examples(t *testing.T) memory {
	x := newMemory(t, 16, false)
	x.lay(0x1004, 0x2007)
	x.lay(0x2008, 0x5005)
	x.lay(0x200C, 0)
	return x
}

// P9.1, P9.2, P9.3: the chapter's examples.
func TestExamples(t *testing.T) {
	x := examples(t)
	walk, code, err := Find(x.m, 0x1000, 0x402123, api.Way{})
	if want := (api.Walk{Frame: 0x5000, Pde: 0x1004, Pte: 0x2008, User: true}); walk != want || code != -1 || err != api.OK {
		t.Errorf("read: %+v, %d, %v", walk, code, err)
	}
	if x.word(0x1004) != 0x2027 || x.word(0x2008) != 0x5025 {
		t.Errorf("words are %#x, %#x", x.word(0x1004), x.word(0x2008))
	}
	for _, c := range []struct {
		lin  uint32
		w    api.Way
		code int
	}{
		{0x402123, api.Way{Write: true, User: true}, 7},
		{0x402123, api.Way{Write: true}, -1},
		{0x402123, api.Way{Write: true, Wp: true}, 3},
		{0x403000, api.Way{User: true}, 4},
		{0x800000, api.Way{}, 0},
	} {
		if _, code, err := Find(x.m, 0x1000, c.lin, c.w); code != c.code || err != api.OK {
			t.Errorf("%#x, %+v: %d, %v; want %d", c.lin, c.w, code, err, c.code)
		}
	}
	if x.word(0x2008) != 0x5065 {
		t.Errorf("behind the write: %#x", x.word(0x2008))
	}
}

// P9.1, P9.2, P9.3: words by hand, what is answered, and both words behind it.
func TestByHand(t *testing.T) {
	const pde, pte = 0x1004, 0x2008
	read, write := api.Way{}, api.Way{Write: true}
	user, userWrite := api.Way{User: true}, api.Way{Write: true, User: true}
	minds, mindsWrite := api.Way{Wp: true}, api.Way{Write: true, Wp: true}
	page := func(w, u bool) api.Walk { return api.Walk{Frame: 0x5000, Pde: pde, Pte: pte, Write: w, User: u} }
	none := api.Walk{}
	for _, c := range []struct {
		first, second uint32
		w             api.Way
		walk          api.Walk
		code          int
		firstIs       uint32
		secondIs      uint32
	}{
		{0x2001, 0x5001, read, page(false, false), -1, 0x2021, 0x5021},
		{0x2001, 0x5001, minds, page(false, false), -1, 0x2021, 0x5021},
		{0x2001, 0x5001, write, page(false, false), -1, 0x2021, 0x5061},
		{0x2001, 0x5001, mindsWrite, none, 3, 0x2001, 0x5001},
		{0x2001, 0x5001, user, none, 5, 0x2001, 0x5001},
		{0x2001, 0x5001, userWrite, none, 7, 0x2001, 0x5001},
		{0x2003, 0x5003, mindsWrite, page(true, false), -1, 0x2023, 0x5063},
		{0x2003, 0x5001, mindsWrite, none, 3, 0x2003, 0x5001},
		{0x2001, 0x5003, mindsWrite, none, 3, 0x2001, 0x5003},
		{0x2003, 0x5003, userWrite, none, 7, 0x2003, 0x5003},
		{0x2007, 0x5007, userWrite, page(true, true), -1, 0x2027, 0x5067},
		{0x2007, 0x5007, user, page(true, true), -1, 0x2027, 0x5027},
		{0x2007, 0x5003, user, none, 5, 0x2007, 0x5003},
		{0x2003, 0x5007, user, none, 5, 0x2003, 0x5007},
		{0x2007, 0x5005, userWrite, none, 7, 0x2007, 0x5005},
		{0x2005, 0x5007, userWrite, none, 7, 0x2005, 0x5007},
		{0x2006, 0x5007, read, none, 0, 0x2006, 0x5007},
		{0x2006, 0x5007, write, none, 2, 0x2006, 0x5007},
		{0x2007, 0x5006, mindsWrite, none, 2, 0x2007, 0x5006},
		{0x2007, 0x5006, user, none, 4, 0x2007, 0x5006},
		{0x2007, 0x5006, userWrite, none, 6, 0x2007, 0x5006},
		{0x2006, 0x5006, userWrite, none, 6, 0x2006, 0x5006},
		{0x2061, 0x5061, read, page(false, false), -1, 0x2061, 0x5061},
		{0x2061, 0x5061, write, page(false, false), -1, 0x2061, 0x5061},
		{0x2041, 0x5041, read, page(false, false), -1, 0x2061, 0x5061},
		{0x2021, 0x5021, write, page(false, false), -1, 0x2021, 0x5061},
		{0x2F9F, 0x5F9F, userWrite, page(true, true), -1, 0x2FBF, 0x5FFF},
	} {
		x := newMemory(t, 16, false)
		x.lay(pde, c.first)
		x.lay(pte, c.second)
		walk, code, err := Find(x.m, 0x1000, 0x402123, c.w)
		if walk != c.walk || code != c.code || err != api.OK {
			t.Errorf("%#x, %#x, %+v: %+v, %d, %v; want %+v, %d", c.first, c.second, c.w, walk, code, err, c.walk, c.code)
		}
		if x.word(pde) != c.firstIs || x.word(pte) != c.secondIs {
			t.Errorf("%#x, %#x, %+v: the words are %#x, %#x", c.first, c.second, c.w, x.word(pde), x.word(pte))
		}
	}
}

// lowBits are all values of the bits of a word that say something beside an address: bits 0 to 2, 5 and 6.
func lowBits() []uint32 {
	var out []uint32
	for n := range uint32(32) {
		out = append(out, n%8+n/8*32)
	}
	return out
}

// P9.1, P9.2, P9.3: every way with every value of the bits 0, 1, 2, 5 and 6 of both words, with the words in two tables, in one table and one of its granules, and at the first and the last words of memory.
func TestEveryWayAndBits(t *testing.T) {
	for _, c := range []struct{ first, second, lin uint32 }{
		{0x1000, 0x2000, 0x402123},
		{0x1000, 0x1000, 0x402123},
		{0, 0x3000, 0x3FFFFF},
		{0x3000, 0, 0xFFC00000},
	} {
		x := newMemory(t, 4, false)
		pde := c.first + c.lin>>22*4
		pte := c.second + c.lin>>12%1024*4
		for _, w := range ways() {
			for _, a := range lowBits() {
				for _, b := range lowBits() {
					x.lay(pde, c.second+a)
					x.lay(pte, 0xABCDE000+b)
					check(t, x, c.first, c.lin, w)
				}
			}
		}
	}
}

// P9.1: each bit of cr3 and of lin on its own, and each but it; those that say nothing change nothing.
func TestBitsOfAddresses(t *testing.T) {
	x := newMemory(t, 256, false)
	for at := 0; at < x.m.Len(); at += 4 {
		// A word that tells apart where it was read, all of them present.
		x.lay(uint32(at), uint32(at)*4093&0xFF000|0x007)
	}
	for n := range 32 {
		for _, flip := range []uint32{1 << n, ^(uint32(1) << n), 1<<n - 1} {
			for _, base := range []uint32{0, 0x12345678, 0x00055AAA, 0x00033000} {
				check(t, x, base^flip, 0x00402123, api.Way{})
				check(t, x, 0x1000, base^flip, api.Way{Write: true})
			}
		}
	}
}

// P9.1: cr3's lowest 12 bits are not looked at, nor are lin's.
func TestLowestBitsSayNothing(t *testing.T) {
	for n := range uint32(0x1000) {
		x := examples(t).m
		walk, code, err := Find(x, 0x1000+n, 0x402000+0xFFF-n, api.Way{})
		if want := (api.Walk{Frame: 0x5000, Pde: 0x1004, Pte: 0x2008, User: true}); walk != want || code != -1 || err != api.OK {
			t.Fatalf("cr3 %#x, lin %#x: %+v, %d, %v", 0x1000+n, 0x402FFF-n, walk, code, err)
		}
	}
}

// P9.1, P9.3: each bit of both words on its own; bits 3, 4 and 7 to 11 change nothing, and stay.
func TestBitsOfWords(t *testing.T) {
	small, great := newMemory(t, 16, false), newMemory(t, 256, false)
	for n := range 32 {
		x := small
		if n >= 16 && n < 20 {
			x = great
		}
		for _, low := range []uint32{1, 3, 5, 7, 0x67} {
			for _, w := range ways() {
				// The table that a changed bit leads to has a word of its own, ahead of the other table's: they may be one.
				x.lay((0x2000^1<<n)&^0xFFF+8, 0x6007)
				x.lay(0x2008, 0x5007)
				x.lay(0x1004, 0x2000+low^1<<n)
				check(t, x, 0x1000, 0x402123, w)

				x.lay(0x1004, 0x2007)
				x.lay(0x2008, 0x5000+low^1<<n)
				check(t, x, 0x1000, 0x402123, w)
			}
		}
	}
	for _, bits := range []uint32{0x008, 0x010, 0x080, 0x100, 0x200, 0x400, 0x800, 0xF98} {
		x := newMemory(t, 16, false)
		x.lay(0x1004, 0x2007+bits)
		x.lay(0x2008, 0xFFFFF007+bits)
		walk, code, _ := Find(x.m, 0x1000, 0x402123, api.Way{Write: true, User: true, Wp: true})
		if want := (api.Walk{Frame: 0xFFFFF000, Pde: 0x1004, Pte: 0x2008, Write: true, User: true}); walk != want || code != -1 {
			t.Errorf("with %#x: %+v, %d", bits, walk, code)
		}
		if x.word(0x1004) != 0x2027+bits || x.word(0x2008) != 0xFFFFF067+bits {
			t.Errorf("with %#x: the words are %#x, %#x", bits, x.word(0x1004), x.word(0x2008))
		}
	}
}

// P9.1: where there is no byte, words have all their bits: tables outside of memory are present, and let all. Nothing is written.
func TestTablesOutside(t *testing.T) {
	const last = 0xFFFFF000
	for _, w := range ways() {
		for _, c := range []struct {
			cr3, lin uint32
			walk     api.Walk
		}{
			{0x10000, 0x402123, api.Walk{Frame: last, Pde: 0x10004, Pte: last + 8, Write: true, User: true}},
			{0x12345678, 0, api.Walk{Frame: last, Pde: 0x12345000, Pte: last, Write: true, User: true}},
			{0xFFFFFFFF, 0xFFFFFFFF, api.Walk{Frame: last, Pde: 0xFFFFFFFC, Pte: 0xFFFFFFFC, Write: true, User: true}},
			{0x80000000, 0x80000000, api.Walk{Frame: last, Pde: 0x80000800, Pte: last, Write: true, User: true}},
		} {
			x := newMemory(t, 16, false)
			if walk, code := check(t, x, c.cr3, c.lin, w); walk != c.walk || code != -1 {
				t.Errorf("cr3 %#x, lin %#x, %+v: %+v, %d", c.cr3, c.lin, w, walk, code)
			}
		}
	}
}

// P9.1, P9.2: a first word within memory whose address part lies outside of it, or just within it.
func TestFirstWordTellsOutside(t *testing.T) {
	for _, table := range []uint32{0xF000, 0x10000, 0x11000, 0x100000, 0x12345000, 0x80000000, 0xFFFFF000} {
		for _, low := range lowBits() {
			for _, w := range ways() {
				x := newMemory(t, 16, false)
				x.lay(0x1004, table+low)
				x.lay(0xF008, 0x7007)
				check(t, x, 0x1000, 0x402123, w)
			}
		}
	}
	x := newMemory(t, 16, false)
	x.lay(0x1004, 0x10001)
	walk, code, err := Find(x.m, 0x1000, 0x402123, api.Way{Write: true})
	if want := (api.Walk{Frame: 0xFFFFF000, Pde: 0x1004, Pte: 0x10008}); walk != want || code != -1 || err != api.OK {
		t.Errorf("outside: %+v, %d, %v", walk, code, err)
	}
	if x.word(0x1004) != 0x10021 {
		t.Errorf("outside: the first word is %#x", x.word(0x1004))
	}
}

// P9.1, P9.3: the first and the last words of memory, of one page and of as many as there can be.
func TestEndsOfMemory(t *testing.T) {
	for _, pages := range []int{1, 2, 256} {
		top := uint32(pages-1) * 4096
		for _, w := range ways() {
			x := newMemory(t, pages, false)
			x.lay(0, top+7)
			x.lay(top+4092, 0xABCDE007)
			walk, code := check(t, x, 0, 0x3FF000, w)
			if want := (api.Walk{Frame: 0xABCDE000, Pde: 0, Pte: top + 4092, Write: true, User: true}); walk != want || code != -1 {
				t.Errorf("up, %d pages, %+v: %+v, %d", pages, w, walk, code)
			}

			x = newMemory(t, pages, false)
			x.lay(top+4092, 7)
			x.lay(0, 0xABCDE007)
			walk, code = check(t, x, top, 0xFFC00FFF, w)
			if want := (api.Walk{Frame: 0xABCDE000, Pde: top + 4092, Pte: 0, Write: true, User: true}); walk != want || code != -1 {
				t.Errorf("down, %d pages, %+v: %+v, %d", pages, w, walk, code)
			}
		}
	}
}

// P9.2: with a fault the walk is empty and nothing is written, not even what was there already; which fault comes first is told by the code.
func TestFaultsWriteNothing(t *testing.T) {
	faults := 0
	x := newMemory(t, 4, false)
	for _, w := range ways() {
		for _, a := range lowBits() {
			for _, b := range lowBits() {
				x.lay(0x1004, 0x2000+a)
				x.lay(0x2008, 0x3000+b)
				watchAll(x.m)
				was := x.all()
				walk, code, err := Find(x.m, 0x1000, 0x402123, w)
				if code == -1 {
					continue
				}
				faults++
				if walk != (api.Walk{}) || err != api.OK {
					t.Errorf("%#x, %#x, %+v: %+v, %v", a, b, w, walk, err)
				}
				if !bytes.Equal(x.all(), was) || len(x.m.Written()) != 0 {
					t.Errorf("%#x, %#x, %+v: something was written", a, b, w)
				}
				if there := a%2 == 1 && b%2 == 1; code%2 == 1 != there || code/2%2 == 1 != w.Write || code/4 == 1 != w.User || code > 7 {
					t.Errorf("%#x, %#x, %+v: code %d", a, b, w, code)
				}
			}
		}
	}
	if faults == 0 {
		t.Error("no fault at all")
	}
}

// P9.2: of nothing but what is not present, whatever else the words say and wherever the first one leads.
func TestNotPresent(t *testing.T) {
	for _, w := range ways() {
		code := 0
		if w.Write {
			code += 2
		}
		if w.User {
			code += 4
		}
		for _, first := range []uint32{0, 0xFFFFFFFE, 0x2000, 0x2006, 0x2066, 0x12345678, 0x80000000} {
			x := newMemory(t, 16, false)
			x.lay(0x1004, first)
			x.lay(0x2008, 0x5007)
			if walk, is := check(t, x, 0x1000, 0x402123, w); walk != (api.Walk{}) || is != code {
				t.Errorf("first %#x, %+v: %+v, %d", first, w, walk, is)
			}
		}
		for _, second := range []uint32{0, 0xFFFFFFFE, 0x5000, 0x5006, 0x5066, 0x80000000} {
			x := newMemory(t, 16, false)
			x.lay(0x1004, 0x2001)
			x.lay(0x2008, second)
			if walk, is := check(t, x, 0x1000, 0x402123, w); walk != (api.Walk{}) || is != code {
				t.Errorf("second %#x, %+v: %+v, %d", second, w, walk, is)
			}
		}
	}
}

// P9.3: which of both words are written, told by what is noted, the words standing in granules of their own; all else in memory stays.
func TestWrittenOnlyIfChanged(t *testing.T) {
	for _, c := range []struct {
		first, second uint32
		write         bool
		noted         []uint32
	}{
		{0x2007, 0x5007, false, []uint32{0x1000, 0x2000}},
		{0x2027, 0x5007, false, []uint32{0x2000}},
		{0x2007, 0x5027, false, []uint32{0x1000}},
		{0x2027, 0x5027, false, nil},
		{0x2007, 0x5067, false, []uint32{0x1000}},
		{0x2027, 0x5047, false, []uint32{0x2000}},
		{0x2067, 0x5067, false, nil},
		{0x2047, 0x5027, false, []uint32{0x1000}},
		{0x2007, 0x5007, true, []uint32{0x1000, 0x2000}},
		{0x2027, 0x5007, true, []uint32{0x2000}},
		{0x2027, 0x5027, true, []uint32{0x2000}},
		{0x2027, 0x5047, true, []uint32{0x2000}},
		{0x2007, 0x5067, true, []uint32{0x1000}},
		{0x2027, 0x5067, true, nil},
	} {
		x := newMemory(t, 16, false)
		x.lay(0x1004, c.first)
		x.lay(0x2008, c.second)
		watchAll(x.m)
		if _, code, err := Find(x.m, 0x1000, 0x402123, api.Way{Write: c.write}); code != -1 || err != api.OK {
			t.Errorf("%#x, %#x: %d, %v", c.first, c.second, code, err)
		}
		for at := 0; at < x.m.Len(); at += api.Granule {
			if x.m.Watched(uint32(at)) == slices.Contains(c.noted, uint32(at)) {
				t.Errorf("%#x, %#x, write %v: at %#x watched %v", c.first, c.second, c.write, at, x.m.Watched(uint32(at)))
			}
		}
		if noted := x.m.Written(); !slices.Equal(noted, c.noted) {
			t.Errorf("%#x, %#x, write %v: noted %#x; want %#x", c.first, c.second, c.write, noted, c.noted)
		}
	}
}

// P9.2, P9.3: memory that takes no writes, of one table or of both: the answer is the same, those words stay, and their granules are watched on.
func TestTablesThatCanOnlyBeRead(t *testing.T) {
	for _, only := range [][]int{{1}, {2}, {1, 2}, {0, 3}} {
		x := newMemory(t, 4, false, only...)
		for _, w := range ways() {
			for _, a := range lowBits() {
				for _, b := range lowBits() {
					x.lay(0x1004, 0x2000+a)
					x.lay(0x2008, 0x3000+b)
					check(t, x, 0x1000, 0x402123, w)
				}
			}
		}
	}
	x := newMemory(t, 4, false, 1, 2)
	x.lay(0x1004, 0x2007)
	x.lay(0x2008, 0x3007)
	x.m.Watch(0x1004)
	x.m.Watch(0x2008)
	walk, code, err := Find(x.m, 0x1000, 0x402123, api.Way{Write: true})
	if want := (api.Walk{Frame: 0x3000, Pde: 0x1004, Pte: 0x2008, Write: true, User: true}); walk != want || code != -1 || err != api.OK {
		t.Errorf("both can only be read: %+v, %d, %v", walk, code, err)
	}
	if x.word(0x1004) != 0x2007 || x.word(0x2008) != 0x3007 || !x.m.Watched(0x1004) || !x.m.Watched(0x2008) {
		t.Error("both can only be read: something was written")
	}
}

// P9.3: both words being one: it has what both were to have.
func TestOneWord(t *testing.T) {
	for _, only := range [][]int{nil, {1}} {
		for _, w := range ways() {
			for _, low := range lowBits() {
				for _, i := range []uint32{0, 1, 513, 1023} {
					x := newMemory(t, 4, false, only...)
					x.lay(0x1000+i*4, 0x1000+low)
					check(t, x, 0x1000, i<<22+i<<12, w)
				}
			}
		}
	}
	for _, c := range []struct {
		was   uint32
		write bool
		is    uint32
	}{
		{0x1003, false, 0x1023}, {0x1003, true, 0x1063}, {0x1023, true, 0x1063}, {0x1043, false, 0x1063}, {0x1043, true, 0x1063}, {0x1063, true, 0x1063},
	} {
		x := newMemory(t, 4, false)
		x.lay(0x1FFC, c.was)
		walk, code, err := Find(x.m, 0x1000, 0xFFFFFFFF, api.Way{Write: c.write})
		if want := (api.Walk{Frame: 0x1000, Pde: 0x1FFC, Pte: 0x1FFC, Write: true}); walk != want || code != -1 || err != api.OK {
			t.Errorf("%#x, write %v: %+v, %d, %v", c.was, c.write, walk, code, err)
		}
		if x.word(0x1FFC) != c.is {
			t.Errorf("%#x, write %v: it is %#x; want %#x", c.was, c.write, x.word(0x1FFC), c.is)
		}
	}
}

// P9.1, P9.3: with the gate closed, addresses are told as they were reckoned, and words are read and written at their places: two addresses may then be one word.
func TestGate(t *testing.T) {
	for _, closed := range both {
		for _, cr3 := range []uint32{0x1000, 0x101000, 0x301000} {
			for _, table := range []uint32{0x1000, 0x2000, 0x101000, 0x102000, 0x302000, 0x80102000} {
				for _, lin := range []uint32{0x402123, 0x401123} {
					for _, w := range ways() {
						for _, low := range lowBits() {
							x := newMemory(t, 4, closed)
							x.lay(0x1004, table+low)
							x.lay(0x1008, 0x5007)
							x.lay(0x2004, 0x6005)
							x.lay(0x2008, 0x7001)
							check(t, x, cr3, lin, w)
						}
					}
				}
			}
		}
	}

	x := newMemory(t, 256, true)
	x.lay(0x1004, 0x101003)
	walk, code, err := Find(x.m, 0x101000, 0x401000, api.Way{Write: true, Wp: true})
	if want := (api.Walk{Frame: 0x101000, Pde: 0x101004, Pte: 0x101004, Write: true}); walk != want || code != -1 || err != api.OK {
		t.Errorf("closed, one address: %+v, %d, %v", walk, code, err)
	}
	if x.word(0x1004) != 0x101063 {
		t.Errorf("closed, one address: %#x", x.word(0x1004))
	}

	x = newMemory(t, 256, true)
	x.lay(0x1004, 0x101003)
	walk, code, err = Find(x.m, 0x1000, 0x401000, api.Way{Write: true, Wp: true})
	if want := (api.Walk{Frame: 0x101000, Pde: 0x1004, Pte: 0x101004, Write: true}); walk != want || code != -1 || err != api.OK {
		t.Errorf("closed, two addresses: %+v, %d, %v", walk, code, err)
	}
	if x.word(0x1004) != 0x101063 {
		t.Errorf("closed, two addresses: %#x", x.word(0x1004))
	}

	x.m.Gate(true)
	walk, code, err = Find(x.m, 0x1000, 0x401000, api.Way{})
	if want := (api.Walk{Frame: 0xFFFFF000, Pde: 0x1004, Pte: 0x101004, Write: true}); walk != want || code != -1 || err != api.OK {
		t.Errorf("open: %+v, %d, %v", walk, code, err)
	}
}

// P9.4: asked again, likewise: the same answer, and nothing written; of the words in one table too.
func TestAskedAgain(t *testing.T) {
	for _, second := range []uint32{0x1000, 0x2000} {
		x := newMemory(t, 4, false)
		for _, w := range ways() {
			for _, a := range lowBits() {
				for _, b := range lowBits() {
					x.lay(0x1004, second+a)
					x.lay(second+8, 0x3000+b)
					walk, code, err := Find(x.m, 0x1000, 0x402123, w)
					watchAll(x.m)
					was := x.all()
					againWalk, againCode, againErr := Find(x.m, 0x1000, 0x402123, w)
					if againWalk != walk || againCode != code || againErr != err {
						t.Errorf("%#x, %#x, %+v: %+v, %d, %v; then %+v, %d, %v", a, b, w, walk, code, err, againWalk, againCode, againErr)
					}
					if len(x.m.Written()) != 0 || !bytes.Equal(x.all(), was) {
						t.Errorf("%#x, %#x, %+v: the second one wrote", a, b, w)
					}
				}
			}
		}
	}
}

// P9.4: what may be written may be read; what users may, the supervisor may; what one who minds may, one who doesn't may.
func TestWhatMayBe(t *testing.T) {
	may := func(a, b uint32, w api.Way) bool {
		x := newMemory(t, 4, false)
		x.lay(0x1004, 0x2000+a)
		x.lay(0x2008, 0x3000+b)
		_, code, err := Find(x.m, 0x1000, 0x402123, w)
		return code == -1 && err == api.OK
	}
	for a := range uint32(8) {
		for b := range uint32(8) {
			for _, w := range ways() {
				if !may(a, b, w) {
					continue
				}
				for _, less := range []api.Way{{User: w.User, Wp: w.Wp}, {Write: w.Write, Wp: w.Wp}, {Write: w.Write, User: w.User}} {
					if !may(a, b, less) {
						t.Errorf("%d, %d: %+v may, %+v may not", a, b, w, less)
					}
				}
			}
		}
	}
}

// P9.1, P9.3: tables in memory that is anyhow: each call against the model, the same memory being used on.
func TestAnyMemory(t *testing.T) {
	seed := uint32(9)
	next := func() uint32 {
		seed = seed*1664525 + 1013904223
		return seed>>16 | seed<<16
	}
	for _, closed := range both {
		x := newMemory(t, 8, closed, 5)
		for at := 0; at < x.m.Len(); at += 4 {
			word := next()
			if word%4 != 0 {
				// Most lead on within memory.
				word = word&0x7FFF | word>>9&0x100000 | 1
			}
			x.lay(uint32(at), word)
		}
		for range 3000 {
			cr3 := next() & 0x107FFF
			w := api.Way{Write: next()&16 != 0, User: next()&16 != 0, Wp: next()&16 != 0}
			check(t, x, cr3, next(), w)
		}
	}
}

// P9.1, R1: of a nil memory ErrArg, and zero values beside it; of one that was not made by New what is read where there is no byte.
func TestNoMemory(t *testing.T) {
	for _, w := range ways() {
		for _, n := range []uint32{0, 1, 0x1000, 0x402123, 0x80000000, 0xFFFFFFFF} {
			if walk, code, err := Find(nil, n, ^n, w); walk != (api.Walk{}) || code != 0 || err != api.ErrArg {
				t.Errorf("nil, %#x, %+v: %+v, %d, %v", n, w, walk, code, err)
			}
			var m ram.Ram
			walk, code, err := Find(&m, 0x1000, n, w)
			want := api.Walk{Frame: 0xFFFFF000, Pde: 0x1000 + n>>22*4, Pte: 0xFFFFF000 + n>>12%1024*4, Write: true, User: true}
			if walk != want || code != -1 || err != api.OK {
				t.Errorf("empty, %#x, %+v: %+v, %d, %v", n, w, walk, code, err)
			}
		}
	}
}
