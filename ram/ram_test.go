package ram

import (
	"bytes"
	"math"
	"slices"
	"testing"

	"drawloom/api"
)

const line20 = 0x100000

var (
	sizes      = []int{1, 2, 4}
	wrongSizes = []int{-1 << 63, -4, -2, -1, 0, 3, 5, 6, 7, 8, 16, 32, 1 << 32, 1<<32 + 1, 1<<32 + 2, 1<<32 + 4, 1<<63 - 1}
)

// model is memory byte by byte, each address worked out anew.
type model struct {
	bytes   []byte
	closed  bool
	only    []bool
	watched []bool
	noted   []bool
}

func newModel(pages int) *model {
	n := pages * 4096
	return &model{bytes: make([]byte, n), only: make([]bool, pages), watched: make([]bool, n/64), noted: make([]bool, n/64)}
}

// place is below 0 where there is no byte.
func (m *model) place(at uint64) int {
	at %= 1 << 32
	if m.closed && at/line20%2 == 1 {
		at -= line20
	}
	if at >= uint64(len(m.bytes)) {
		return -1
	}
	return int(at)
}

func (m *model) dump(at uint32, n int) []byte {
	var out []byte
	for i := range max(n, 0) {
		b := byte(255)
		if p := m.place(uint64(at) + uint64(i)); p >= 0 {
			b = m.bytes[p]
		}
		out = append(out, b)
	}
	return out
}

func (m *model) lay(at uint32, b []byte, forced bool) {
	for i := range b {
		p := m.place(uint64(at) + uint64(i))
		if p < 0 || m.only[p/4096] && !forced {
			continue
		}
		m.bytes[p] = b[i]
		if m.watched[p/64] {
			m.watched[p/64], m.noted[p/64] = false, true
		}
	}
}

func (m *model) read(at uint32, size int) uint32 {
	out := uint32(0)
	for _, b := range slices.Backward(m.dump(at, size)) {
		out = out*256 + uint32(b)
	}
	return out
}

func (m *model) write(at uint32, size int, v uint32) {
	var b []byte
	for range size {
		b = append(b, byte(v%256))
		v /= 256
	}
	m.lay(at, b, false)
}

func (m *model) watch(at uint32) {
	if p := m.place(uint64(at)); p >= 0 {
		m.watched[p/64] = true
	}
}

func (m *model) isWatched(at uint32) bool {
	p := m.place(uint64(at))
	return p >= 0 && m.watched[p/64]
}

func (m *model) written() []uint32 {
	var out []uint32
	for g, is := range m.noted {
		if is {
			out = append(out, uint32(g*64))
		}
		m.noted[g] = false
	}
	return out
}

func made(t *testing.T, pages int) *Ram {
	t.Helper()
	m, e := New(pages)
	if e != api.OK || m == nil {
		t.Fatalf("New(%d) = %v, %d", pages, m, e)
	}
	return m
}

func write(t *testing.T, m *Ram, at uint32, size int, v uint32) {
	t.Helper()
	if e := m.Write(at, size, v); e != api.OK {
		t.Fatalf("Write(%#x, %d, %#x) = %d", at, size, v, e)
	}
}

func wantRead(t *testing.T, m *Ram, at uint32, size int, want uint32) {
	t.Helper()
	if v, e := m.Read(at, size); v != want || e != api.OK {
		t.Errorf("Read(%#x, %d) = %#x, %d; want %#x", at, size, v, e, want)
	}
}

func wantDump(t *testing.T, m *Ram, at uint32, want ...byte) {
	t.Helper()
	if b := m.Dump(at, len(want)); !bytes.Equal(b, want) {
		t.Errorf("Dump(%#x, %d) = %x; want %x", at, len(want), b, want)
	}
}

func wantWritten(t *testing.T, m *Ram, want ...uint32) {
	t.Helper()
	if l := m.Written(); !slices.Equal(l, want) {
		t.Errorf("Written() = %#x; want %#x", l, want)
	}
}

func wantWatched(t *testing.T, m *Ram, at uint32, want bool) {
	t.Helper()
	if is := m.Watched(at); is != want {
		t.Errorf("Watched(%#x) = %v; want %v", at, is, want)
	}
}

func setRom(t *testing.T, m *Ram, page int, only bool) {
	t.Helper()
	if e := m.Rom(page, only); e != api.OK {
		t.Fatalf("Rom(%d, %v) = %d", page, only, e)
	}
}

// P5.1: how many pages there may be, and Len.
func TestNewCounts(t *testing.T) {
	for _, pages := range []int{math.MinInt, -1<<32 + 1, -256, -1, 0, 257, 258, 512, 1 << 32, 1<<32 + 1, 1<<32 + 256, math.MaxInt} {
		if m, e := New(pages); m != nil || e != api.ErrRamSize {
			t.Errorf("New(%d) = %v, %d", pages, m, e)
		}
	}
	for pages := 1; pages <= 256; pages++ {
		if m := made(t, pages); m.Len() != pages*4096 {
			t.Errorf("New(%d).Len() = %d", pages, m.Len())
		}
	}
}

// P5.1: noughts, no granule watched or noted, the gate open, each page one that can be written.
func TestNewIsBlank(t *testing.T) {
	for _, pages := range []int{1, 2, 255, 256} {
		m := made(t, pages)
		n := m.Len()
		if !bytes.Equal(m.Dump(0, n), make([]byte, n)) {
			t.Errorf("%d pages are not noughts", pages)
		}
		wantRead(t, m, uint32(n), 1, 255)
		wantRead(t, m, line20, 1, 255)
		wantWritten(t, m)
		for at := 0; at < n; at += 64 {
			wantWatched(t, m, uint32(at), false)
		}
		for at := 0; at < n; at += 4096 {
			write(t, m, uint32(at), 1, 7)
			wantRead(t, m, uint32(at), 1, 7)
		}
		wantWritten(t, m)
	}
}

// P5.1: no two memories are one.
func TestMemoriesAreApart(t *testing.T) {
	a, b := made(t, 1), made(t, 1)
	write(t, a, 0, 4, 0x01020304)
	a.Watch(0)
	a.Gate(false)
	setRom(t, a, 0, true)
	wantRead(t, b, 0, 4, 0)
	wantWatched(t, b, 0, false)
	wantRead(t, b, line20, 1, 255)
	write(t, b, 0, 1, 9)
	wantRead(t, b, 0, 1, 9)
	wantRead(t, a, 0, 4, 0x01020304)
}

// P5.2: the lowest byte first, of each size; no more than the size's bytes are written, and bits above it are not looked at.
func TestReadWriteSizes(t *testing.T) {
	for _, c := range []struct {
		size   int
		memory []byte
		value  uint32
	}{
		{1, []byte{0x44, 0xAA, 0xAA, 0xAA, 0xAA}, 0x44},
		{2, []byte{0x44, 0xB3, 0xAA, 0xAA, 0xAA}, 0xB344},
		{4, []byte{0x44, 0xB3, 0x22, 0xF1, 0xAA}, 0xF122B344},
	} {
		m := made(t, 2)
		m.Load(99, bytes.Repeat([]byte{0xAA}, 6))
		write(t, m, 100, c.size, 0xF122B344)
		wantDump(t, m, 100, c.memory...)
		wantRead(t, m, 99, 1, 0xAA)
		wantRead(t, m, 100, c.size, c.value)
	}
}

// P5.2: across two pages.
func TestAcrossPages(t *testing.T) {
	m := made(t, 3)
	write(t, m, 4095, 2, 0x1122)
	wantDump(t, m, 4094, 0, 0x22, 0x11, 0)
	wantRead(t, m, 4095, 2, 0x1122)
	for at := uint32(8189); at <= 8191; at++ {
		write(t, m, at, 4, 0xA1B2C3D4)
		wantDump(t, m, at, 0xD4, 0xC3, 0xB2, 0xA1)
		wantRead(t, m, at, 4, 0xA1B2C3D4)
		write(t, m, at, 4, 0)
	}
}

// P5.2: where there is no byte, 255 is read, and what is written is lost; the rest is not.
func TestAcrossTheEnd(t *testing.T) {
	for _, pages := range []int{1, 3, 256} {
		m := made(t, pages)
		end := uint32(m.Len())
		write(t, m, end-1, 4, 0x11223344)
		wantRead(t, m, end-1, 1, 0x44)
		wantRead(t, m, end-1, 2, 0xFF44)
		wantRead(t, m, end-1, 4, 0xFFFFFF44)
		wantRead(t, m, end-2, 4, 0xFFFF4400)
		write(t, m, end-3, 4, 0x55667788)
		wantRead(t, m, end-3, 4, 0xFF667788)
		for _, at := range []uint32{end, end + 1, end + 4095, 2 * end, 0x80000000, 0xFFFFFFFC} {
			write(t, m, at, 4, 0)
			wantRead(t, m, at, 1, 255)
			wantRead(t, m, at, 2, 0xFFFF)
			wantRead(t, m, at, 4, 0xFFFFFFFF)
		}
		wantRead(t, m, 0, 4, 0)
		if m.Len() != int(end) {
			t.Errorf("Len() = %d", m.Len())
		}
	}
}

// P5.2: addresses are cut to 32 bits.
func TestAcrossThirtyTwoBits(t *testing.T) {
	m := made(t, 1)
	write(t, m, 0xFFFFFFFE, 4, 0x11223344)
	wantDump(t, m, 0, 0x22, 0x11, 0)
	wantRead(t, m, 0xFFFFFFFE, 4, 0x1122FFFF)
	wantRead(t, m, 0xFFFFFFFF, 2, 0x22FF)
	wantRead(t, m, 0xFFFFFFFF, 4, 0x001122FF)
	m.Load(0xFFFFFFFF, []byte{1, 2, 3})
	wantDump(t, m, 0xFFFFFFFE, 255, 255, 2, 3, 0)
}

// P5.3, P5.6: with the gate closed addresses that differ in bit 20 alone are one place; no other bit is taken away.
func TestGate(t *testing.T) {
	m := made(t, 256)
	write(t, m, line20+5, 1, 9)
	wantRead(t, m, 5, 1, 0)
	m.Gate(false)
	write(t, m, line20+5, 1, 7)
	wantRead(t, m, 5, 1, 7)
	wantRead(t, m, line20+5, 1, 7)
	for place := uint(12); place < 32; place++ {
		v, want := uint32(0), uint32(0xFFFFFFFF)
		if place < 20 {
			want = 0
		} else if place == 20 {
			want, v = 0x01020304, 0x01020304
		}
		write(t, m, 8, 4, v)
		wantRead(t, m, 1<<place+8, 4, want)
	}
	wantRead(t, m, 0xFFFFFFFF, 4, 0xFF)
	m.Gate(false)
	wantRead(t, m, line20+5, 1, 7)
	m.Gate(true)
	wantRead(t, m, line20+5, 1, 255)
	wantRead(t, m, 5, 1, 7)
	m.Gate(true)
	wantRead(t, m, line20+5, 1, 255)
}

// P5.2, P5.3: each byte has a place of its own, where bit 20 changes between them.
func TestGateAcrossBit20(t *testing.T) {
	m := made(t, 256)
	m.Gate(false)
	write(t, m, 0xFFFFE, 4, 0x11223344)
	wantDump(t, m, 0, 0x22, 0x11, 0)
	wantDump(t, m, 0xFFFFE, 0x44, 0x33, 0x22, 0x11)
	wantRead(t, m, 0xFFFFF, 2, 0x2233)
	write(t, m, 0x1FFFFF, 4, 0x55667788)
	m.Gate(true)
	wantRead(t, m, 0xFFFFF, 4, 0xFFFFFF88)
	wantRead(t, m, 0, 2, 0x1122)
	m.Gate(false)
	wantRead(t, m, 0x1FFFFF, 4, 0xFFFFFF88)
	m.Load(0xFFFFF, []byte{1, 2, 3})
	wantDump(t, m, 0, 2, 3)
	wantDump(t, m, 0x1FFFFF, 1, 255, 255)
}

// P5.3: a page that can only be read, and one that can be written again.
func TestRom(t *testing.T) {
	m := made(t, 3)
	setRom(t, m, 1, true)
	for at := uint32(4096); at < 8192; at++ {
		write(t, m, at, 1, 5)
	}
	if !bytes.Equal(m.Dump(4096, 4096), make([]byte, 4096)) {
		t.Error("a page that can only be read was written")
	}
	write(t, m, 4095, 1, 6)
	write(t, m, 8192, 1, 7)
	wantRead(t, m, 4095, 1, 6)
	wantRead(t, m, 8192, 1, 7)
	setRom(t, m, 1, true)
	write(t, m, 5000, 1, 8)
	wantRead(t, m, 5000, 1, 0)
	setRom(t, m, 1, false)
	write(t, m, 5000, 1, 8)
	wantRead(t, m, 5000, 1, 8)
	setRom(t, m, 0, true)
	setRom(t, m, 2, true)
	write(t, m, 0, 1, 9)
	write(t, m, 3*4096-1, 1, 9)
	wantRead(t, m, 0, 1, 0)
	wantRead(t, m, 3*4096-1, 1, 0)
}

// P5.3: of no such page nothing is changed.
func TestRomOfNoPage(t *testing.T) {
	for _, pages := range []int{1, 3, 256} {
		m := made(t, pages)
		for _, page := range []int{math.MinInt, -1 << 32, -1<<32 + 1, -4096, -1, pages, pages + 1, 4096, 1 << 20, 1 << 32, 1<<32 + 1, math.MaxInt} {
			for _, only := range []bool{true, false} {
				if e := m.Rom(page, only); e != api.ErrArg {
					t.Errorf("%d pages: Rom(%d, %v) = %d", pages, page, only, e)
				}
			}
		}
		for page := range pages {
			write(t, m, uint32(page*4096), 1, 3)
			wantRead(t, m, uint32(page*4096), 1, 3)
		}
		if m.Len() != pages*4096 {
			t.Errorf("Len() = %d", m.Len())
		}
		setRom(t, m, pages-1, true)
		if e := m.Rom(pages, false); e != api.ErrArg {
			t.Errorf("Rom(%d, false) = %d", pages, e)
		}
		write(t, m, uint32(pages*4096-1), 1, 3)
		wantRead(t, m, uint32(pages*4096-1), 1, 0)
	}
}

// P5.2, P5.3: Write across a page that can only be read and one that can be written, and the other way round.
func TestWriteAcrossRom(t *testing.T) {
	m := made(t, 3)
	setRom(t, m, 1, true)
	write(t, m, 4094, 4, 0x04030201)
	wantDump(t, m, 4094, 1, 2, 0, 0)
	write(t, m, 8190, 4, 0x08070605)
	wantDump(t, m, 8190, 0, 0, 7, 8)
	m.Watch(4095)
	m.Watch(4096)
	m.Watch(8191)
	m.Watch(8192)
	write(t, m, 4095, 2, 0)
	write(t, m, 8191, 2, 0)
	wantWatched(t, m, 4096, true)
	wantWatched(t, m, 8191, true)
	wantWritten(t, m, 4032, 8192)
}

// P5.4: the granule of a place, at each of its ends.
func TestWatchGranules(t *testing.T) {
	for _, first := range []uint32{0, 64, 4032, 4096, 8128} {
		for _, in := range []uint32{0, 1, 31, 32, 62, 63} {
			m := made(t, 2)
			m.Watch(first + in)
			for at := range uint32(8192) {
				if is := m.Watched(at); is != (at/64 == first/64) {
					t.Fatalf("Watch(%d): Watched(%d) = %v", first+in, at, is)
				}
			}
			write(t, m, first-1, 1, 1)
			write(t, m, first+64, 1, 1)
			wantWatched(t, m, first, true)
			wantWritten(t, m)
			write(t, m, first+63-in, 1, 1)
			wantWatched(t, m, first+in, false)
			wantWritten(t, m, first)
			wantWritten(t, m)
		}
	}
}

// P5.4: where there is no byte, no granule is watched.
func TestWatchNoByte(t *testing.T) {
	for _, pages := range []int{1, 256} {
		m := made(t, pages)
		end := uint32(m.Len())
		for _, at := range []uint32{end, end + 63, end + 64, 2 * end, line20 * 2, 0x80000000, 0xFFFFFFFF} {
			m.Watch(at)
			wantWatched(t, m, at, false)
			write(t, m, at, 1, 1)
			m.Load(at, []byte{1})
		}
		for at := uint32(0); at < end; at += 64 {
			wantWatched(t, m, at, false)
		}
		m.Watch(end - 1)
		wantWatched(t, m, end-64, true)
		wantWatched(t, m, end, false)
		write(t, m, end, 4, 1)
		wantWritten(t, m)
		write(t, m, end-1, 4, 1)
		wantWritten(t, m, end-64)
	}
}

// P5.4: with the gate closed it is the place that is watched, not the address.
func TestWatchBehindTheGate(t *testing.T) {
	m := made(t, 256)
	m.Gate(false)
	m.Watch(line20 + 130)
	wantWatched(t, m, 128, true)
	wantWatched(t, m, line20+191, true)
	wantWatched(t, m, 3*line20+130, false)
	m.Gate(true)
	wantWatched(t, m, 128, true)
	wantWatched(t, m, line20+130, false)
	write(t, m, line20+130, 1, 1)
	wantWatched(t, m, 128, true)
	m.Gate(false)
	write(t, m, line20+129, 1, 1)
	wantWatched(t, m, 130, false)
	wantWritten(t, m, 128)
	m.Watch(0)
	m.Watch(0xFFFFF)
	write(t, m, 0xFFFFF, 2, 0)
	wantWritten(t, m, 0, 0xFFFC0)
}

// P5.4: the same byte again is written, too; reading is not.
func TestSameByteAgain(t *testing.T) {
	m := made(t, 1)
	m.Watch(70)
	m.Read(64, 4)
	m.Dump(0, 4096)
	wantWatched(t, m, 64, true)
	wantWritten(t, m)
	write(t, m, 64, 1, 0)
	wantWatched(t, m, 64, false)
	wantWritten(t, m, 64)
	m.Watch(70)
	m.Load(127, []byte{0})
	wantWatched(t, m, 64, false)
	wantWritten(t, m, 64)
}

// P5.4: two granules at once; those that are not watched are not noted.
func TestTwoGranules(t *testing.T) {
	m := made(t, 2)
	m.Watch(0)
	m.Watch(64)
	m.Watch(128)
	write(t, m, 126, 4, 1)
	wantWatched(t, m, 0, true)
	wantWatched(t, m, 64, false)
	wantWatched(t, m, 128, false)
	wantWritten(t, m, 64, 128)
	m.Watch(4100)
	write(t, m, 4093, 4, 1)
	wantWritten(t, m, 4096)
	m.Watch(4095)
	write(t, m, 4093, 4, 1)
	wantWritten(t, m, 4032)
	write(t, m, 4093, 4, 1)
	wantWritten(t, m)
}

// P5.4: a byte of a page that can only be read is neither changed nor noted.
func TestWatchRom(t *testing.T) {
	m := made(t, 2)
	setRom(t, m, 0, true)
	m.Watch(0)
	write(t, m, 0, 4, 1)
	write(t, m, 1, 1, 0)
	wantWatched(t, m, 0, true)
	wantWritten(t, m)
	setRom(t, m, 0, false)
	wantWatched(t, m, 0, true)
	write(t, m, 1, 1, 0)
	wantWatched(t, m, 0, false)
	wantWritten(t, m, 0)
}

// P5.4: rising, each once, and none when asked again, whatever the order of writing.
func TestWrittenRises(t *testing.T) {
	m := made(t, 256)
	var want []uint32
	for n := range uint32(1000) {
		at := n * 7919 % 16384 * 64
		m.Watch(at + n%64)
		want = append(want, at)
	}
	for i := range want {
		write(t, m, want[len(want)-1-i]+uint32(i)%64, 1, 1)
	}
	slices.Sort(want)
	wantWritten(t, m, want...)
	for range 3 {
		wantWritten(t, m)
	}
}

// P5.4: watched, written, watched and written again, with and without its having been asked between.
func TestWatchedAnew(t *testing.T) {
	m := made(t, 1)
	for range 3 {
		m.Watch(200)
		m.Watch(201)
		write(t, m, 199, 1, 1)
		write(t, m, 199, 1, 1)
	}
	wantWritten(t, m, 192)
	wantWritten(t, m)
	write(t, m, 199, 1, 1)
	wantWritten(t, m)
	m.Watch(200)
	write(t, m, 199, 1, 1)
	m.Watch(200)
	wantWritten(t, m, 192)
	wantWatched(t, m, 200, true)
	wantWritten(t, m)
	write(t, m, 199, 1, 1)
	wantWritten(t, m, 192)
}

// P5.5: Load of none, over several pages, and over one that can only be read; what is beside stays.
func TestLoad(t *testing.T) {
	m := made(t, 5)
	m.Watch(10)
	m.Load(10, nil)
	m.Load(10, []byte{})
	wantWatched(t, m, 10, true)
	wantWritten(t, m)
	setRom(t, m, 2, true)
	b := make([]byte, 3*4096)
	for i := range b {
		b[i] = byte(i*7 + i/256)
	}
	m.Load(4000, b)
	wantRead(t, m, 3999, 1, 0)
	wantRead(t, m, uint32(4000+len(b)), 1, 0)
	if !bytes.Equal(m.Dump(4000, len(b)), b) {
		t.Error("what was laid is not there")
	}
	write(t, m, 8192, 1, 99)
	wantRead(t, m, 8192, 1, uint32(b[4192]))
}

// P5.5: granules are noted as by Write, those of a page that can only be read, too: its bytes were laid.
func TestLoadNotes(t *testing.T) {
	m := made(t, 4)
	setRom(t, m, 1, true)
	for at := uint32(0); at < 16384; at += 64 {
		m.Watch(at)
	}
	var want []uint32
	for at := uint32(3968); at <= 8192; at += 64 {
		want = append(want, at)
	}
	m.Load(4031, make([]byte, 8192-4031+1))
	for at := uint32(0); at < 16384; at += 64 {
		wantWatched(t, m, at, at < 3968 || at > 8192)
	}
	wantWritten(t, m, want...)
	wantWritten(t, m)
	m.Load(8193, []byte{1})
	wantWritten(t, m)
}

// P5.5: Load across the end of memory, and of more bytes than there are.
func TestLoadBeyond(t *testing.T) {
	m := made(t, 2)
	m.Load(8190, []byte{1, 2, 3, 4})
	wantDump(t, m, 8189, 0, 1, 2, 255, 255)
	m.Load(8192, []byte{5, 6})
	wantDump(t, m, 8191, 2, 255, 255)
	b := make([]byte, 20000)
	for i := range b {
		b[i] = byte(i + i/256)
	}
	m.Load(0, b)
	if !bytes.Equal(m.Dump(0, 8192), b[:8192]) || m.Len() != 8192 {
		t.Error("more bytes than there are")
	}
	m.Load(0xFFFFF000, b)
	if !bytes.Equal(m.Dump(0, 8192), b[4096:4096+8192]) {
		t.Error("bytes from the end of 32 bits on")
	}
}

// P5.5, P5.6: with the gate closed bytes that come round lie over those ahead of them.
func TestLoadComesRound(t *testing.T) {
	m := made(t, 256)
	m.Gate(false)
	b := make([]byte, line20+10)
	for i := range b {
		b[i] = byte(i*3 + i/4096 + 1)
	}
	m.Load(0, b)
	want := append(slices.Clone(b[line20:]), b[10:line20]...)
	if !bytes.Equal(m.Dump(0, line20), want) {
		t.Error("bytes that came round")
	}
	if !bytes.Equal(m.Dump(line20-5, 20), slices.Concat(want[line20-5:], want[:15])) {
		t.Error("bytes across bit 20")
	}
}

// P5.5: Dump of 0 and below 0 bytes, of one, across pages and the end; beyond the bound it does not panic.
func TestDump(t *testing.T) {
	m := made(t, 2)
	for _, n := range []int{math.MinInt, -1<<32 + 1, -4096, -1, 0} {
		for _, at := range []uint32{0, 8191, 8192, 0xFFFFFFFF} {
			if b := m.Dump(at, n); len(b) != 0 {
				t.Errorf("Dump(%d, %d) = %x", at, n, b)
			}
		}
	}
	m.Load(4090, []byte{1, 2, 3, 4, 5, 6, 7, 8})
	wantDump(t, m, 4090, 1)
	wantDump(t, m, 4089, 0, 1, 2, 3, 4, 5, 6, 7, 8, 0)
	m.Load(8190, []byte{9, 8})
	wantDump(t, m, 8189, 0, 9, 8, 255, 255)
	wantDump(t, m, 8192, 255, 255, 255)
	long := m.Dump(8191, 10000)
	if len(long) != 10000 || long[0] != 8 || !bytes.Equal(long[1:], bytes.Repeat([]byte{255}, 9999)) {
		t.Error("a long Dump across the end")
	}
	m.Dump(0, math.MaxInt)
	m.Dump(0, 1<<48)
}

// R4: what is told is new memory, spare room too, and what is handed in is neither changed nor kept.
func TestNothingIsShared(t *testing.T) {
	m := made(t, 2)
	room := bytes.Repeat([]byte{7}, 300)
	m.Load(4000, room[:200])
	if !bytes.Equal(room, bytes.Repeat([]byte{7}, 300)) {
		t.Error("Load changed what it was handed")
	}
	for i := range room {
		room[i] = 1
	}
	first, second := m.Dump(4000, 201), m.Dump(4000, 201)
	want := append(bytes.Repeat([]byte{7}, 200), 0)
	if !bytes.Equal(first, want) {
		t.Error("Load kept what it was handed")
	}
	for i := range first[:cap(first)] {
		first[:cap(first)][i] = 2
	}
	if !bytes.Equal(second, want) || !bytes.Equal(m.Dump(4000, 201), want) {
		t.Error("Dump told memory that is shared")
	}
	noteTwo := func() []uint32 {
		m.Watch(0)
		m.Watch(64)
		write(t, m, 63, 2, 0)
		return m.Written()
	}
	one, two := noteTwo(), noteTwo()
	for i := range one[:cap(one)] {
		one[:cap(one)][i] = 2
	}
	if !slices.Equal(two, []uint32{0, 64}) || !slices.Equal(noteTwo(), []uint32{0, 64}) {
		t.Error("Written told memory that is shared")
	}
}

// P5.2, R2, R3: a size that may not be, wherever it is asked.
func TestWrongSizes(t *testing.T) {
	m := made(t, 2)
	m.Load(0, []byte{1, 2, 3, 4})
	m.Watch(0)
	for _, size := range wrongSizes {
		for _, at := range []uint32{0, 4095, 8191, 8192, 0xFFFFFFFF} {
			if v, e := m.Read(at, size); v != 0 || e != api.ErrSize {
				t.Errorf("Read(%#x, %d) = %#x, %d", at, size, v, e)
			}
			if e := m.Write(at, size, 0x99999999); e != api.ErrSize {
				t.Errorf("Write(%#x, %d) = %d", at, size, e)
			}
		}
	}
	wantDump(t, m, 0, 1, 2, 3, 4, 0)
	wantDump(t, m, 4095, 0, 0)
	wantWatched(t, m, 0, true)
	wantWritten(t, m)
}

// R1: a Ram that is none.
func TestNil(t *testing.T) {
	var m *Ram
	for _, size := range append([]int{1, 2, 4}, wrongSizes...) {
		if v, e := m.Read(0, size); v != 0 || e != api.ErrArg {
			t.Errorf("Read(0, %d) = %d, %d", size, v, e)
		}
		if e := m.Write(0, size, 1); e != api.ErrArg {
			t.Errorf("Write(0, %d, 1) = %d", size, e)
		}
	}
	if e := m.Rom(0, true); e != api.ErrArg {
		t.Errorf("Rom = %d", e)
	}
	m.Gate(false)
	m.Gate(true)
	m.Watch(0)
	m.Load(0, []byte{1})
	if m.Len() != 0 || m.Watched(0) || len(m.Written()) != 0 || len(m.Dump(0, 4)) != 0 {
		t.Error("a Ram that is none tells something")
	}
}

// R1: a Ram that was made by hand has no byte.
func TestHandMade(t *testing.T) {
	m := &Ram{}
	wantRead(t, m, 0, 4, 0xFFFFFFFF)
	write(t, m, 0, 4, 1)
	m.Watch(0)
	m.Gate(false)
	m.Load(line20, []byte{1})
	wantDump(t, m, 0, 255, 255)
	if e := m.Rom(0, true); e != api.ErrArg {
		t.Errorf("Rom = %d", e)
	}
	if m.Len() != 0 || m.Watched(0) || len(m.Written()) != 0 {
		t.Error("a Ram without pages tells something")
	}
}

// dice are numbers that are the same in every run.
type dice uint64

func (d *dice) next(below int) int {
	*d = *d*6364136223846793005 + 1442695040888963407
	return int(uint64(*d) >> 33 % uint64(below))
}

// address is near an edge, mostly: of a page, of memory, of bit 20, of 32 bits.
func (d *dice) address(pages int) uint32 {
	edges := []uint32{0, 4096, uint32(pages * 4096), uint32(pages*4096) - 64, line20, 2 * line20, 3 * line20, line20 + 4096, 0x80000000}
	if d.next(4) == 0 {
		return uint32(d.next(pages * 4096))
	}
	return edges[d.next(len(edges))] + uint32(d.next(300)) - 150
}

// P5.1 to P5.6: long runs of all calls, against the model.
func TestAgainstTheModel(t *testing.T) {
	for run := range 60 {
		d := dice(run)
		pages := []int{1, 2, 3, 16, 255, 256}[run%6]
		m, w := made(t, pages), newModel(pages)
		for step := range 2000 {
			if !sameStep(t, &d, m, w, pages) {
				t.Fatalf("run %d, step %d", run, step)
			}
		}
		if !bytes.Equal(m.Dump(0, m.Len()), w.dump(0, len(w.bytes))) {
			t.Fatalf("run %d: the memories differ", run)
		}
	}
}

// sameStep does one call of the memory and of its model, and tells whether they answer alike.
func sameStep(t *testing.T, d *dice, m *Ram, w *model, pages int) bool {
	at, size := d.address(pages), sizes[d.next(3)]
	switch d.next(12) {
	case 0:
		w.closed = d.next(2) == 0
		m.Gate(!w.closed)
	case 1:
		page, only := d.next(pages), d.next(2) == 0
		w.only[page] = only
		setRom(t, m, page, only)
	case 2, 3:
		m.Watch(at)
		w.watch(at)
	case 4:
		b := make([]byte, d.next(600))
		for i := range b {
			b[i] = byte(d.next(256))
		}
		m.Load(at, b)
		w.lay(at, b, true)
	case 5:
		n := d.next(600) - 20
		return bytes.Equal(m.Dump(at, n), w.dump(at, n))
	case 6:
		return slices.Equal(m.Written(), w.written())
	case 7, 8, 9:
		v := uint32(d.next(1<<31))<<1 ^ uint32(d.next(2))
		write(t, m, at, size, v)
		w.write(at, size, v)
	case 10:
		return m.Watched(at) == w.isWatched(at)
	default:
		v, e := m.Read(at, size)
		return v == w.read(at, size) && e == api.OK
	}
	return true
}
