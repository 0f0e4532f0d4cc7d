package tlb

import (
	"bytes"
	"math"
	"slices"
	"testing"

	"drawloom/api"
	"drawloom/page"
	"drawloom/ram"
)

var both = []bool{false, true}

// ways are all eight.
func ways() []api.Way {
	var out []api.Way
	for _, write := range both {
		for _, user := range both {
			for _, wp := range both {
				out = append(out, api.Way{Write: write, User: user, Wp: wp})
			}
		}
	}
	return out
}

func newRam(t *testing.T, pages int) *ram.Ram {
	t.Helper()
	m, err := ram.New(pages)
	if err != api.OK {
		t.Fatalf("ram.New(%d): %v", pages, err)
	}
	return m
}

func newTlb(t *testing.T, m *ram.Ram, places int) *Tlb {
	t.Helper()
	x, err := New(m, places)
	if err != api.OK {
		t.Fatalf("New(%d): %v", places, err)
	}
	return x
}

// subject is one that is held against page.Find: over a memory of its own, flushed and dropped by a habit of its own.
type subject struct {
	name   string
	places int
	m      *ram.Ram
	tlb    *Tlb
	ahead  func(x *Tlb, lin uint32) // ahead of each Find
	behind func(x *Tlb, lin uint32)
}

// bench is a memory on which package page walks, and subjects over memories that are laid alike.
type bench struct {
	t        *testing.T
	watching bool // all granules are watched ahead of each Find, or only those that a test watches
	plain    *ram.Ram
	subjects []subject
}

func newBench(t *testing.T, pages int, watching bool) *bench {
	t.Helper()
	nothing := func(*Tlb, uint32) {}
	flush := func(x *Tlb, lin uint32) { x.Flush() }
	drop := func(x *Tlb, lin uint32) { x.Drop(lin ^ 0x5A5) }
	other := func(x *Tlb, lin uint32) { x.Drop(lin ^ 0x1000) }
	b := &bench{t: t, watching: watching, plain: newRam(t, pages)}
	b.subjects = []subject{
		{name: "no places", places: 0, ahead: nothing, behind: nothing},
		{name: "one place", places: 1, ahead: nothing, behind: nothing},
		{name: "two places", places: 2, ahead: nothing, behind: nothing},
		{name: "all places", places: api.MaxTlb, ahead: nothing, behind: nothing},
		{name: "flushed ahead", places: 3, ahead: flush, behind: nothing},
		{name: "flushed behind", places: 3, ahead: nothing, behind: flush},
		{name: "dropped ahead", places: 3, ahead: drop, behind: nothing},
		{name: "dropped behind", places: 3, ahead: nothing, behind: drop},
		{name: "another dropped", places: 3, ahead: other, behind: other},
	}
	for i := range b.subjects {
		s := &b.subjects[i]
		s.m = newRam(t, pages)
		s.tlb = newTlb(t, s.m, s.places)
	}
	return b
}

// benches runs a test with and without all granules being watched.
func benches(t *testing.T, pages int, test func(b *bench)) {
	t.Helper()
	for _, watching := range both {
		test(newBench(t, pages, watching))
	}
}

// each does a thing to every memory.
func (b *bench) each(do func(m *ram.Ram)) {
	do(b.plain)
	for _, s := range b.subjects {
		do(s.m)
	}
}

// word lays a word, also where nothing may be written.
func (b *bench) word(at, word uint32) {
	b.each(func(m *ram.Ram) { load(m, at, word) })
}

func load(m *ram.Ram, at, word uint32) {
	m.Load(at, []byte{byte(word), byte(word >> 8), byte(word >> 16), byte(word >> 24)})
}

func (b *bench) is(at uint32) uint32 {
	v, _ := b.plain.Read(at, 4)
	return v
}

// flush flushes every subject.
func (b *bench) flush() {
	for _, s := range b.subjects {
		s.tlb.Flush()
	}
}

// find holds each subject's answer, and its memory behind it, against package page's. It tells that answer.
func (b *bench) find(cr3, lin uint32, w api.Way) (api.Walk, int) {
	b.t.Helper()
	if b.watching {
		b.each(watchAll)
	}
	walk, code, err := page.Find(b.plain, cr3, lin, w)
	bytesAre, watched, noted := state(b.plain)
	for _, s := range b.subjects {
		s.ahead(s.tlb, lin)
		isWalk, isCode, isErr := s.tlb.Find(cr3, lin, w)
		if n := s.tlb.Kept(); n < 0 || n > s.places {
			b.t.Errorf("%s: %d are kept in %d places", s.name, n, s.places)
		}
		s.behind(s.tlb, lin)
		if isWalk != walk || isCode != code || isErr != err {
			b.t.Errorf("%s: Find(%#x, %#x, %+v) = %+v, %d, %v; want %+v, %d, %v", s.name, cr3, lin, w, isWalk, isCode, isErr, walk, code, err)
		}
		isBytes, isWatched, isNoted := state(s.m)
		if !bytes.Equal(isBytes, bytesAre) {
			b.t.Errorf("%s: Find(%#x, %#x, %+v): memory is not as it should be", s.name, cr3, lin, w)
		}
		if !slices.Equal(isWatched, watched) || !slices.Equal(isNoted, noted) {
			b.t.Errorf("%s: Find(%#x, %#x, %+v) noted %#x; want %#x; or what is watched differs", s.name, cr3, lin, w, isNoted, noted)
		}
	}
	return walk, code
}

func watchAll(m *ram.Ram) {
	for at := 0; at < m.Len(); at += api.Granule {
		m.Watch(uint32(at))
	}
}

// state is what can be told of a memory; what was noted is forgotten by that.
func state(m *ram.Ram) (all []byte, watched []bool, noted []uint32) {
	for at := 0; at < m.Len(); at += api.Granule {
		watched = append(watched, m.Watched(uint32(at)))
	}
	return m.Dump(0, m.Len()), watched, m.Written()
}

// examples lays the words of chapter 9's examples.
func (b *bench) examples() {
	b.word(0x1004, 0x2007)
	b.word(0x2008, 0x5005)
	b.word(0x200C, 0)
}

// P10.1: a memory there must be, first of all; then a number of places that may be.
func TestNew(t *testing.T) {
	for _, places := range []int{math.MinInt, -1, 0, 1, 64, 65, math.MaxInt} {
		if x, err := New(nil, places); x != nil || err != api.ErrArg {
			t.Errorf("New(nil, %d) = %v, %v", places, x, err)
		}
	}
	for _, places := range []int{math.MinInt, -65, -1, 65, 66, 1 << 32, math.MaxInt} {
		if x, err := New(newRam(t, 1), places); x != nil || err != api.ErrTlbSize {
			t.Errorf("New(%d) = %v, %v", places, x, err)
		}
	}
	for places := range 65 {
		x, err := New(newRam(t, 1), places)
		if x == nil || err != api.OK {
			t.Fatalf("New(%d) = %v, %v", places, x, err)
		}
		if x.Kept() != 0 {
			t.Errorf("New(%d) keeps %d", places, x.Kept())
		}
	}
}

// P10.1: New, Flush, Drop and Kept leave memory alone; so do the errors.
func TestMemoryIsLeftAlone(t *testing.T) {
	m := newRam(t, 4)
	load(m, 0x1004, 0x2007)
	load(m, 0x2008, 0x5007)
	m.Watch(0x1004)
	was, wasWatched, _ := state(m)
	New(m, -1)
	New(m, 65)
	x := newTlb(t, m, 2)
	x.Flush()
	x.Drop(0x402000)
	x.Kept()
	is, isWatched, noted := state(m)
	if !bytes.Equal(is, was) || !slices.Equal(isWatched, wasWatched) || len(noted) != 0 {
		t.Error("something was done to memory")
	}
}

// P10.1, P10.2, P10.3: the chapter's examples, with chapter 9's walks.
func TestExamples(t *testing.T) {
	if _, err := New(newRam(t, 16), 65); err != api.ErrTlbSize {
		t.Errorf("New(65): %v", err)
	}
	if x := newTlb(t, newRam(t, 16), 2); x.Kept() != 0 {
		t.Errorf("a new one keeps %d", x.Kept())
	}
	benches(t, 16, func(b *bench) {
		b.examples()
		for range 3 {
			for _, c := range []struct {
				lin  uint32
				w    api.Way
				code int
			}{
				{0x402123, api.Way{}, -1},
				{0x402123, api.Way{Write: true, User: true}, 7},
				{0x402123, api.Way{Write: true}, -1},
				{0x402123, api.Way{Write: true, Wp: true}, 3},
				{0x403000, api.Way{User: true}, 4},
				{0x800000, api.Way{}, 0},
			} {
				if _, code := b.find(0x1000, c.lin, c.w); code != c.code {
					t.Errorf("%#x, %+v: %d; want %d", c.lin, c.w, code, c.code)
				}
			}
		}
		b.word(0x2008, 0x6007)
		walk, code := b.find(0x1000, 0x402123, api.Way{Write: true, User: true})
		if want := (api.Walk{Frame: 0x6000, Pde: 0x1004, Pte: 0x2008, Write: true, User: true}); walk != want || code != -1 {
			t.Errorf("the second word changed: %+v, %d", walk, code)
		}
	})
}

// P10.2: by hand, without package page: the answers, and the words behind each call.
func TestByHand(t *testing.T) {
	m := newRam(t, 16)
	x := newTlb(t, m, 4)
	const same = -1 // the word stays as it was left
	for i, c := range []struct {
		first, second int
		w             api.Way
		walk          api.Walk
		code          int
		firstIs       uint32
		secondIs      uint32
	}{
		{0x2007, 0x5007, api.Way{User: true}, api.Walk{Frame: 0x5000, Pde: 0x1004, Pte: 0x2008, Write: true, User: true}, -1, 0x2027, 0x5027},
		{same, same, api.Way{User: true}, api.Walk{Frame: 0x5000, Pde: 0x1004, Pte: 0x2008, Write: true, User: true}, -1, 0x2027, 0x5027},
		{same, same, api.Way{Write: true}, api.Walk{Frame: 0x5000, Pde: 0x1004, Pte: 0x2008, Write: true, User: true}, -1, 0x2027, 0x5067},
		{same, 0x5047, api.Way{}, api.Walk{Frame: 0x5000, Pde: 0x1004, Pte: 0x2008, Write: true, User: true}, -1, 0x2027, 0x5067},
		{0x2007, same, api.Way{}, api.Walk{Frame: 0x5000, Pde: 0x1004, Pte: 0x2008, Write: true, User: true}, -1, 0x2027, 0x5067},
		{same, 0x5065, api.Way{Write: true, User: true}, api.Walk{}, 7, 0x2027, 0x5065},
		{same, same, api.Way{Write: true, Wp: true}, api.Walk{}, 3, 0x2027, 0x5065},
		{same, same, api.Way{Write: true}, api.Walk{Frame: 0x5000, Pde: 0x1004, Pte: 0x2008, User: true}, -1, 0x2027, 0x5065},
		{0x2023, same, api.Way{User: true}, api.Walk{}, 5, 0x2023, 0x5065},
		{same, same, api.Way{}, api.Walk{Frame: 0x5000, Pde: 0x1004, Pte: 0x2008}, -1, 0x2023, 0x5065},
		{same, 0x7001, api.Way{}, api.Walk{Frame: 0x7000, Pde: 0x1004, Pte: 0x2008}, -1, 0x2023, 0x7021},
		{same, 0x7060, api.Way{Write: true}, api.Walk{}, 2, 0x2023, 0x7060},
		{0, 0x7001, api.Way{User: true}, api.Walk{}, 4, 0, 0x7001},
		{0x2021, same, api.Way{Wp: true}, api.Walk{Frame: 0x7000, Pde: 0x1004, Pte: 0x2008}, -1, 0x2021, 0x7021},
	} {
		if c.first != same {
			load(m, 0x1004, uint32(c.first))
		}
		if c.second != same {
			load(m, 0x2008, uint32(c.second))
		}
		walk, code, err := x.Find(0x1000, 0x402123, c.w)
		if walk != c.walk || code != c.code || err != api.OK {
			t.Errorf("%d: %+v, %d, %v; want %+v, %d", i, walk, code, err, c.walk, c.code)
		}
		first, _ := m.Read(0x1004, 4)
		second, _ := m.Read(0x2008, 4)
		if first != c.firstIs || second != c.secondIs {
			t.Errorf("%d: the words are %#x, %#x; want %#x, %#x", i, first, second, c.firstIs, c.secondIs)
		}
	}
}

// P10.2: every way behind every other at one page, whatever its words let.
func TestEveryWayBehindEveryOther(t *testing.T) {
	benches(t, 4, func(b *bench) {
		for low := range uint32(64) {
			for _, ahead := range ways() {
				for _, behind := range ways() {
					b.word(0x1004, 0x2000+low%8)
					b.word(0x2008, 0x3000+low/8)
					b.find(0x1000, 0x402123, ahead)
					b.find(0x1000, 0x402123, behind)
				}
			}
		}
	})
}

// P10.2: a page that was found to be read, and then to be written: bit 6 of the second word.
func TestReadThenWritten(t *testing.T) {
	benches(t, 4, func(b *bench) {
		for _, w := range ways() {
			b.word(0x1004, 0x2007)
			b.word(0x2008, 0x3007)
			w.Write = false
			b.find(0x1000, 0x402123, w)
			b.find(0x1000, 0x402123, w)
			if b.is(0x1004) != 0x2027 || b.is(0x2008) != 0x3027 {
				t.Errorf("%+v: read: %#x, %#x", w, b.is(0x1004), b.is(0x2008))
			}
			w.Write = true
			b.find(0x1000, 0x402123, w)
			if b.is(0x1004) != 0x2027 || b.is(0x2008) != 0x3067 {
				t.Errorf("%+v: written: %#x, %#x", w, b.is(0x1004), b.is(0x2008))
			}
		}
	})
}

// P10.2: bits 5 and 6 of either word are taken away in between, and are set again where the way asks for that.
func TestMarksTakenAway(t *testing.T) {
	benches(t, 4, func(b *bench) {
		for _, ahead := range ways() {
			for _, behind := range ways() {
				for marks := range uint32(16) {
					b.word(0x1004, 0x2067)
					b.word(0x2008, 0x3067)
					b.find(0x1000, 0x402123, ahead)
					first, second := 0x2007+marks%4*32, 0x3007+marks/4*32
					b.word(0x1004, first)
					b.word(0x2008, second)
					b.find(0x1000, 0x402123, behind)
					if behind.Write {
						second |= 64
					}
					if b.is(0x1004) != first|32 || b.is(0x2008) != second|32 {
						t.Errorf("%+v, %+v, %d: %#x, %#x", ahead, behind, marks, b.is(0x1004), b.is(0x2008))
					}
				}
			}
		}
	})
}

// P10.2: either word changed in between, each bit of it on its own, by Write and by Load; and changed back.
func TestEachBitChanged(t *testing.T) {
	byWrite := func(m *ram.Ram, at, word uint32) { m.Write(at, 4, word) }
	byByte := func(m *ram.Ram, at, word uint32) {
		for i := range uint32(4) {
			m.Write(at+i, 1, word>>(8*i))
		}
	}
	for _, change := range []func(m *ram.Ram, at, word uint32){byWrite, byByte, load} {
		benches(t, 8, func(b *bench) {
			// The tables that a changed bit leads to have words of their own.
			for i, table := range []uint32{0, 0x3000, 0x4000, 0x5000, 0x6000} {
				b.word(table+8, uint32(0x40000+i*0x1000+7))
			}
			for n := range 32 {
				for _, at := range []uint32{0x1004, 0x2008} {
					for _, w := range ways() {
						b.word(0x1004, 0x2007)
						b.word(0x2008, 0x5007)
						b.find(0x1000, 0x402123, w)
						b.find(0x1000, 0x402123, w)
						was := b.is(at)
						b.each(func(m *ram.Ram) { change(m, at, was^1<<n) })
						b.find(0x1000, 0x402123, w)
						b.each(func(m *ram.Ram) { change(m, at, was) })
						b.find(0x1000, 0x402123, w)
					}
				}
			}
		})
	}
}

// P10.2: a page that was found and is no longer present, by either word; and that is present again.
func TestNoLongerPresent(t *testing.T) {
	benches(t, 4, func(b *bench) {
		for _, at := range []uint32{0x1004, 0x2008} {
			for _, w := range ways() {
				b.word(0x1004, 0x2067)
				b.word(0x2008, 0x3067)
				for range 2 {
					if walk, code := b.find(0x1000, 0x402123, w); walk.Frame != 0x3000 || code != -1 {
						t.Errorf("%+v: %+v, %d", w, walk, code)
					}
					was := b.is(at)
					for _, gone := range []uint32{was &^ 1, 0} {
						b.word(at, gone)
						if walk, code := b.find(0x1000, 0x402123, w); walk != (api.Walk{}) || code < 0 || code%2 != 0 {
							t.Errorf("%#x is %#x, %+v: %+v, %d", at, gone, w, walk, code)
						}
					}
					b.word(at, was)
				}
			}
		}
	})
}

// P10.2: another cr3 with the same address.
func TestOtherCr3(t *testing.T) {
	benches(t, 8, func(b *bench) {
		b.word(0x1004, 0x2007)
		b.word(0x2008, 0x6007)
		b.word(0x3004, 0x4005)
		b.word(0x4008, 0x7007)
		b.word(0x5004, 0x2001)
		for _, w := range ways() {
			for range 2 {
				for _, c := range []struct{ cr3, frame uint32 }{{0x1000, 0x6000}, {0x3000, 0x7000}, {0x5000, 0x6000}, {0, 0}} {
					if walk, code := b.find(c.cr3, 0x402123, w); code == -1 && walk.Frame != c.frame {
						t.Errorf("cr3 %#x, %+v: %+v", c.cr3, w, walk)
					}
				}
			}
		}
	})
}

// P10.2: bits 0 to 11 of cr3 and of the address say nothing; each of their other bits does.
func TestBitsOfAddresses(t *testing.T) {
	benches(t, 8, func(b *bench) {
		for at := uint32(0); at < 8*4096; at += 4 {
			// A word that tells apart where it was read, all of them present, all tables in memory.
			b.word(at, at*37&0x7000|7)
		}
		for n := range 32 {
			for _, w := range []api.Way{{}, {Write: true, User: true}} {
				b.find(0x1000, 0x402000, w)
				b.find(0x1000^1<<n, 0x402000, w)
				b.find(0x1000, 0x402000^1<<n, w)
				b.find(0x1000^1<<n, 0x402000^1<<n, w)
			}
		}
	})
	benches(t, 4, func(b *bench) {
		b.word(0x1004, 0x2007)
		b.word(0x2008, 0x3007)
		want := api.Walk{Frame: 0x3000, Pde: 0x1004, Pte: 0x2008, Write: true, User: true}
		for _, low := range []uint32{0, 1, 0x123, 0x7FF, 0x800, 0xFFF} {
			for _, w := range ways() {
				if walk, code := b.find(0x1000+low, 0x402FFF-low, w); walk != want || code != -1 {
					t.Errorf("%#x, %+v: %+v, %d", low, w, walk, code)
				}
			}
		}
	})
}

// P10.2: words in memory that can only be read are not marked; once it can be written they are, whatever was found ahead.
func TestWordsThatCanOnlyBeRead(t *testing.T) {
	benches(t, 4, func(b *bench) {
		for _, only := range [][]int{{1}, {2}, {1, 2}} {
			for _, ahead := range ways() {
				for _, behind := range ways() {
					b.word(0x1004, 0x2007)
					b.word(0x2008, 0x3007)
					for _, p := range only {
						b.each(func(m *ram.Ram) { m.Rom(p, true) })
					}
					b.find(0x1000, 0x402123, ahead)
					b.find(0x1000, 0x402123, behind)
					for _, p := range only {
						b.each(func(m *ram.Ram) { m.Rom(p, false) })
					}
					b.find(0x1000, 0x402123, behind)
					second := uint32(0x3027)
					if behind.Write || ahead.Write && !slices.Contains(only, 2) {
						second = 0x3067
					}
					if b.is(0x1004) != 0x2027 || b.is(0x2008) != second {
						t.Errorf("%v, %+v, %+v: %#x, %#x", only, ahead, behind, b.is(0x1004), b.is(0x2008))
					}
				}
			}
		}
	})
}

// P10.2: words in memory that can only be read, laid anew in between.
func TestLoadedWhereOnlyRead(t *testing.T) {
	benches(t, 4, func(b *bench) {
		b.each(func(m *ram.Ram) { m.Rom(1, true); m.Rom(2, true) })
		for _, low := range []uint32{7, 0x27, 0x67} {
			for _, w := range ways() {
				b.word(0x1004, 0x2000+low)
				b.word(0x2008, 0x3000+low)
				b.find(0x1000, 0x402123, w)
				b.each(func(m *ram.Ram) { m.Write(0x2008, 4, 0) })
				b.find(0x1000, 0x402123, w)
				b.word(0x2008, 0x5000+low)
				if walk, code := b.find(0x1000, 0x402123, w); walk.Frame != 0x5000 || code != -1 {
					t.Errorf("%#x, %+v: %+v, %d", low, w, walk, code)
				}
			}
		}
	})
}

// P10.2: words outside of memory are present and let all, again and again.
func TestWordsOutside(t *testing.T) {
	benches(t, 4, func(b *bench) {
		for range 2 {
			for _, w := range ways() {
				for _, cr3 := range []uint32{0x4000, 0x101000, 0x80000000, 0xFFFFF000} {
					walk, code := b.find(cr3, 0x402123, w)
					if want := (api.Walk{Frame: 0xFFFFF000, Pde: cr3 + 4, Pte: 0xFFFFF008, Write: true, User: true}); walk != want || code != -1 {
						t.Errorf("cr3 %#x, %+v: %+v, %d", cr3, w, walk, code)
					}
				}
				for low := range uint32(8) {
					b.word(0x1004, 0x4000+low)
					b.find(0x1000, 0x402123, w)
					b.find(0x1000, 0x402123, w)
				}
				b.word(0x1004, 0x2007)
				b.word(0x2008, 0x3007)
				if walk, code := b.find(0x1000, 0x402123, w); walk.Frame != 0x3000 || code != -1 {
					t.Errorf("back in memory, %+v: %+v, %d", w, walk, code)
				}
			}
		}
	})
}

// P10.2: both words being one: every way behind every other, and the word changed in between.
func TestOneWord(t *testing.T) {
	benches(t, 4, func(b *bench) {
		for _, only := range both {
			b.each(func(m *ram.Ram) { m.Rom(1, only) })
			for _, low := range []uint32{1, 3, 5, 7, 0x27, 0x47, 0x67} {
				for _, ahead := range ways() {
					for _, behind := range ways() {
						b.word(0x1004, 0x1000+low)
						b.find(0x1000, 0x401123, ahead)
						b.find(0x1000, 0x401123, behind)
						b.word(0x1004, b.is(0x1004)&^0x20)
						b.find(0x1000, 0x401123, behind)
					}
				}
			}
		}
	})
}

// P10.2: the gate is opened and closed in between.
func TestGate(t *testing.T) {
	benches(t, 4, func(b *bench) {
		b.word(0x1008, 0x3007)
		b.word(0x2008, 0x103007)
		gate := func(open bool) { b.each(func(m *ram.Ram) { m.Gate(open) }) }
		for _, cr3 := range []uint32{0x1000, 0x101000} {
			for _, table := range []uint32{0x1000, 0x2000, 0x101000, 0x102000} {
				for _, lin := range []uint32{0x401123, 0x402123} {
					for _, w := range ways() {
						b.word(0x1004, table+7)
						for _, open := range []bool{true, false, false, true, true, false} {
							gate(open)
							b.find(cr3, lin, w)
						}
						b.word(0x1004, table+5)
						b.find(cr3, lin, w)
						gate(true)
					}
				}
			}
		}
		b.word(0x1004, 0x102007)
		for range 2 {
			gate(false)
			if walk, code := b.find(0x1000, 0x402123, api.Way{}); walk.Frame != 0x103000 || walk.Pte != 0x102008 || code != -1 {
				t.Errorf("closed: %+v, %d", walk, code)
			}
			gate(true)
			if walk, code := b.find(0x1000, 0x402123, api.Way{}); walk.Frame != 0xFFFFF000 || walk.Pte != 0x102008 || code != -1 {
				t.Errorf("open: %+v, %d", walk, code)
			}
		}
	})
}

// P10.2, P10.3: more pages than there are places, gone through forth, back and by leaps, their words changed in between.
func TestMorePagesThanPlaces(t *testing.T) {
	const pages = 100
	lin := func(i int) uint32 { return 0x400000 + uint32(i)<<12 }
	frame := func(i, round int) uint32 { return uint32(i+round*pages) << 12 }
	benches(t, 4, func(b *bench) {
		b.word(0x1004, 0x2007)
		for round, w := range []api.Way{{}, {Write: true}, {User: true}, {Write: true, User: true, Wp: true}} {
			for i := range pages {
				b.word(0x2000+uint32(i)*4, frame(i, round)+7)
			}
			for i := range pages {
				b.find(0x1000, lin(i), w)
			}
			for i := range pages {
				b.find(0x1000, lin(pages-1-i), w)
			}
			for i := range pages {
				n := i * 37 % pages
				if walk, code := b.find(0x1000, lin(n), w); walk.Frame != frame(n, round) || code != -1 {
					t.Errorf("page %d of round %d: %+v, %d", n, round, walk, code)
				}
			}
		}
		// The first word is that of all these pages.
		b.word(0x1004, 0x2005)
		for i := range pages {
			if walk, code := b.find(0x1000, lin(i), api.Way{Write: true, User: true}); walk != (api.Walk{}) || code != 7 {
				t.Errorf("page %d: %+v, %d", i, walk, code)
			}
		}
	})
}

// manyPages lays a table for two cr3, 0x1000 and 0x3000: all pages from 0x400000 on are present.
func manyPages(m *ram.Ram) {
	load(m, 0x1004, 0x2007)
	load(m, 0x3004, 0x2007)
	for i := range uint32(1024) {
		load(m, 0x2000+i*4, i<<12+7)
	}
}

// P10.3: each page that is found is kept, till there are as many as there are places; never more.
func TestKept(t *testing.T) {
	for places := range api.MaxTlb + 1 {
		m := newRam(t, 4)
		manyPages(m)
		x := newTlb(t, m, places)
		for i := range 200 {
			x.Find(0x1000, 0x400000+uint32(i)<<12, api.Way{User: i%3 == 0})
			x.Find(0x1000, 0x400000+uint32(i)<<12, api.Way{Write: i%2 == 0})
			if n := x.Kept(); n != min(i+1, places) {
				t.Fatalf("%d places: %d are kept of %d", places, n, i+1)
			}
		}
		x.Flush()
		if x.Kept() != 0 {
			t.Errorf("%d places: flushed, %d are kept", places, x.Kept())
		}
		x.Flush()
		x.Find(0x1000, 0x400000, api.Way{})
		if n := x.Kept(); n != min(1, places) {
			t.Errorf("%d places: found behind Flush, %d are kept", places, n)
		}
	}
}

// P10.3: a page is one, however it was found: by whatever way, and whatever bits 0 to 11 of cr3 and of the address are.
func TestKeptOnce(t *testing.T) {
	m := newRam(t, 4)
	manyPages(m)
	x := newTlb(t, m, 8)
	for _, low := range []uint32{0, 1, 0x800, 0xFFF} {
		for _, w := range ways() {
			x.Find(0x1000+low, 0x402000, w)
			x.Find(0x1000, 0x402000+low, w)
			if x.Kept() != 1 {
				t.Fatalf("%#x, %+v: %d are kept", low, w, x.Kept())
			}
		}
	}
}

// P10.3: a page that was not found is not kept; one that is no longer found is kept no longer.
func TestFaultsAreNotKept(t *testing.T) {
	m := newRam(t, 4)
	x := newTlb(t, m, 4)
	x.Find(0x1000, 0x402000, api.Way{})
	load(m, 0x1004, 0x2005)
	x.Find(0x1000, 0x402000, api.Way{})
	load(m, 0x2008, 0x3005)
	x.Find(0x1000, 0x402000, api.Way{Write: true, User: true})
	if x.Kept() != 0 {
		t.Errorf("faults: %d are kept", x.Kept())
	}
	x.Find(0x1000, 0x402000, api.Way{})
	if x.Kept() != 1 {
		t.Errorf("found: %d are kept", x.Kept())
	}
	load(m, 0x2008, 0x3004)
	x.Find(0x1000, 0x402000, api.Way{})
	if x.Kept() != 0 {
		t.Errorf("no longer present: %d are kept", x.Kept())
	}
}

// P10.3: Drop forgets the page by whatever cr3, whatever bits 0 to 11 are, and no other.
func TestDrop(t *testing.T) {
	fill := func() *Tlb {
		m := newRam(t, 4)
		manyPages(m)
		x := newTlb(t, m, 8)
		for _, lin := range []uint32{0x400000, 0x401000, 0x402000} {
			x.Find(0x1000, lin, api.Way{})
			x.Find(0x3000, lin+0xFFF, api.Way{Write: true})
		}
		x.Find(0x1000, 0x403000, api.Way{})
		return x
	}
	for _, c := range []struct {
		lin  uint32
		kept int
	}{
		{0x401000, 5}, {0x401001, 5}, {0x401800, 5}, {0x401FFF, 5},
		{0x403000, 6}, {0x403FFF, 6},
		{0x404000, 7}, {0x3FFFFF, 7}, {0, 7}, {0x1000, 7}, {0xFFFFFFFF, 7}, {0x80401000, 7}, {0x1401000, 7},
	} {
		x := fill()
		if x.Kept() != 7 {
			t.Fatalf("%d are kept", x.Kept())
		}
		for range 2 {
			x.Drop(c.lin)
			if x.Kept() != c.kept {
				t.Errorf("Drop(%#x): %d are kept; want %d", c.lin, x.Kept(), c.kept)
			}
		}
		x.Flush()
		x.Drop(c.lin)
		if x.Kept() != 0 {
			t.Errorf("Flush, Drop(%#x): %d are kept", c.lin, x.Kept())
		}
	}
	x := fill()
	for i, lin := range []uint32{0x402123, 0x400456, 0x401789, 0x403ABC} {
		x.Drop(lin)
		if want := []int{5, 3, 1, 0}[i]; x.Kept() != want {
			t.Errorf("Drop(%#x): %d are kept; want %d", lin, x.Kept(), want)
		}
	}
	for _, places := range []int{0, 1} {
		x := newTlb(t, newRam(t, 1), places)
		x.Drop(0x400000)
		if x.Kept() != 0 {
			t.Errorf("%d places, nothing found: %d are kept", places, x.Kept())
		}
	}
}

// P10.2, P10.4: Flush and Drop ahead of a walk and behind it, also of other pages, with words that were changed and that were not.
func TestFlushAndDropAreNotSeen(t *testing.T) {
	benches(t, 8, func(b *bench) {
		b.each(manyPages)
		walks := func(w api.Way) {
			for _, lin := range []uint32{0x402123, 0x403000, 0x402FFF} {
				b.find(0x1000, lin, w)
				b.find(0x3000, lin, w)
			}
		}
		drop := func(lin uint32) {
			for _, s := range b.subjects {
				s.tlb.Drop(lin)
			}
		}
		for _, w := range ways() {
			b.flush()
			walks(w)
			b.flush()
			b.word(0x2008, 0x5007)
			walks(w)
			drop(0x402ABC)
			walks(w)
			b.word(0x2008, 0x6001)
			drop(0x402000)
			walks(w)
			b.word(0x2008, 0x7007)
			drop(0x403000)
			drop(0x999000)
			walks(w)
			b.word(0x3004, 0x2001)
			walks(w)
			b.word(0x3004, 0x2007)
		}
	})
}

// P10.4: two with other numbers of places, over memories that are laid alike, are told apart by Kept alone.
func TestPlacesAreToldByKeptAlone(t *testing.T) {
	few, many := newRam(t, 4), newRam(t, 4)
	manyPages(few)
	manyPages(many)
	a, b := newTlb(t, few, 3), newTlb(t, many, 50)
	for i := range 400 {
		cr3 := uint32(0x1000 + i%2*0x2000)
		lin := 0x400000 + uint32(i*7%60)<<12
		w := api.Way{Write: i%3 == 0, User: i%5 == 0}
		aWalk, aCode, aErr := a.Find(cr3, lin, w)
		bWalk, bCode, bErr := b.Find(cr3, lin, w)
		if aWalk != bWalk || aCode != bCode || aErr != bErr {
			t.Fatalf("%d: %+v, %d, %v; %+v, %d, %v", i, aWalk, aCode, aErr, bWalk, bCode, bErr)
		}
		if i%11 == 0 {
			load(few, 0x2000+uint32(i%60)*4, uint32(i)<<12+7)
			load(many, 0x2000+uint32(i%60)*4, uint32(i)<<12+7)
		}
		if !bytes.Equal(few.Dump(0, few.Len()), many.Dump(0, many.Len())) {
			t.Fatalf("%d: the memories differ", i)
		}
	}
	if a.Kept() != 3 || b.Kept() != 50 {
		t.Errorf("%d and %d are kept", a.Kept(), b.Kept())
	}
}

// P10.3, R5: what is kept hangs on what was called, on nothing else: twins keep as many, behind each call.
func TestTwinsKeepAlike(t *testing.T) {
	for places := range 20 {
		var twins []*Tlb
		for range 4 {
			m := newRam(t, 4)
			manyPages(m)
			twins = append(twins, newTlb(t, m, places))
		}
		next := numbers(uint32(places))
		for i := range 500 {
			lin, cr3, drops := 0x400000+next()%32<<12, 0x1000+next()%2*0x2000, next()%3 == 0
			for _, x := range twins {
				if drops {
					x.Drop(lin)
				} else {
					x.Find(cr3, lin, api.Way{})
				}
				if x.Kept() != twins[0].Kept() {
					t.Fatalf("%d places, call %d: %d are kept, and %d", places, i, x.Kept(), twins[0].Kept())
				}
			}
		}
	}
}

// numbers tells numbers that are anyhow, the same ones each time.
func numbers(seed uint32) func() uint32 {
	return func() uint32 {
		seed = seed*1664525 + 1013904223
		return seed>>16 | seed<<16
	}
}

// P10.2, P10.3, P10.4: anything in any order, in memory that is anyhow.
func TestAnyCalls(t *testing.T) {
	for seed := range uint32(6) {
		next := numbers(seed)
		b := newBench(t, 8, seed%2 == 0)
		word := func() uint32 {
			w := next()
			if w%8 != 0 {
				// Most lead on within memory.
				w = w&0x7FFF | w>>9&0x100000 | 1
			}
			return w
		}
		for at := uint32(0); at < 8*4096; at += 4 {
			b.word(at, word())
		}
		for range 2000 {
			at, v, n := next()&0x107FFF, word(), next()
			// Few addresses, so that they come again.
			cr3, lin := 0x1000+n%3*0x100800, n>>4%4<<22+n>>8%4<<12+n>>12%4096
			switch next() % 16 {
			case 0:
				b.each(func(m *ram.Ram) { m.Gate(v%2 == 0) })
			case 1:
				b.each(func(m *ram.Ram) { m.Rom(int(at>>12%8), v%2 == 0) })
			case 2:
				b.each(func(m *ram.Ram) { m.Write(at, int(1<<(n%3)), v) })
			case 3:
				b.word(at, v)
			case 4:
				b.each(func(m *ram.Ram) { m.Watch(at) })
			case 5:
				b.subjects[n%9].tlb.Flush()
			case 6:
				b.subjects[n%9].tlb.Drop(lin)
			case 7, 8:
				// A word that a walk goes by, changed in a bit.
				pde := cr3&^0xFFF + lin>>22*4
				b.word(pde, b.is(pde)^1<<(v>>3%8))
			case 9, 10:
				pde := cr3&^0xFFF + lin>>22*4
				pte := b.is(pde)&^0xFFF + lin>>12%1024*4
				b.word(pte, b.is(pte)^1<<(v>>3%8))
			default:
				b.find(cr3, lin, api.Way{Write: v&16 != 0, User: v&8 != 0, Wp: v&32 != 0})
			}
		}
	}
}

// R1: of none, ErrArg where there is an error to be told, else zero values.
func TestNone(t *testing.T) {
	var x *Tlb
	for _, w := range ways() {
		for _, n := range []uint32{0, 0x1000, 0x402123, 0x80000000, 0xFFFFFFFF} {
			if walk, code, err := x.Find(n, ^n, w); walk != (api.Walk{}) || code != 0 || err != api.ErrArg {
				t.Errorf("nil: Find(%#x): %+v, %d, %v", n, walk, code, err)
			}
			x.Flush()
			x.Drop(n)
			if x.Kept() != 0 {
				t.Errorf("nil: Kept %d", x.Kept())
			}
		}
	}
}

// R1: one that New did not make has no memory; a memory that ram.New did not make has no bytes.
func TestHandMade(t *testing.T) {
	var x Tlb
	for _, w := range ways() {
		if walk, code, err := x.Find(0x1000, 0x402123, w); walk != (api.Walk{}) || code != 0 || err != api.ErrArg {
			t.Errorf("no memory: %+v, %d, %v", walk, code, err)
		}
		x.Drop(0x402123)
		x.Flush()
		if x.Kept() != 0 {
			t.Errorf("no memory: Kept %d", x.Kept())
		}
	}
	y := newTlb(t, &ram.Ram{}, 2)
	for range 2 {
		for _, w := range ways() {
			walk, code, err := y.Find(0x1000, 0x402123, w)
			if want := (api.Walk{Frame: 0xFFFFF000, Pde: 0x1004, Pte: 0xFFFFF008, Write: true, User: true}); walk != want || code != -1 || err != api.OK {
				t.Errorf("no bytes: %+v, %d, %v", walk, code, err)
			}
		}
	}
}
