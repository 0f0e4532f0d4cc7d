package ide

import (
	"bytes"
	"math"
	"slices"
	"testing"

	"drawloom/api"
)

// model is a disk in lists and whole numbers alone: the place is one number, what is to be read a list that grows shorter, what was written a list that grows longer.
type model struct {
	sectors      [][]byte
	count, place int
	flags        int // the head, without the place's bits
	err          int
	ended        bool // a command ended with err
	control      int
	asked        bool // by the mark
	doing        string
	left, got    []byte
	written      []int
}

func newModel(disk []byte) *model {
	m := &model{}
	for n := 0; n < len(disk); n += 512 {
		m.sectors = append(m.sectors, slices.Clone(disk[n:n+512]))
	}
	m.fresh()
	return m
}

func (m *model) fresh() {
	m.err, m.ended = 1, false
	m.count, m.place, m.flags, m.control = 1, 1, 0, 0
	m.asked, m.doing = false, ""
}

func (m *model) other() bool { return m.flags/16%2 == 1 }

// P14.2 and P14.3, register by register.
func (m *model) out(reg, size int, v uint32) api.Errno {
	b := int(v % 256)
	switch reg {
	case 0:
		if size != 1 && size != 2 && size != 4 {
			return api.ErrSize
		}
		for range size {
			m.takeByte(byte(v % 256))
			v /= 256
		}
	case 1:
	case 2:
		m.count = b
	case 3:
		m.place += b - m.place%256
	case 4:
		m.place += (b - m.place/256%256) * 256
	case 5:
		m.place += (b - m.place/65536%256) * 65536
	case 6:
		m.flags = b / 16 * 16
		m.place = m.place%(1<<24) + b%16*(1<<24)
	case 7:
		m.command(b)
	case 8:
		if b/4%2 == 1 {
			m.fresh()
		}
		m.control = b
	default:
		return api.ErrArg
	}
	return api.OK
}

func (m *model) command(v int) {
	if m.other() {
		return
	}
	m.asked, m.err, m.ended, m.doing = false, 0, false, ""
	switch v {
	case 0x20, 0x21, 0x30, 0x31:
		if m.flags/64%2 == 0 {
			m.fail(4)
		} else if v < 0x30 {
			m.readNext()
		} else {
			m.writeNext()
		}
	case 0xEC:
		m.left = make([]byte, 512)
		m.left[0], m.left[99], m.left[120] = 64, 2, byte(len(m.sectors))
		m.doing, m.asked = "tell", true
	case 0xE7, 0x91:
		m.asked = true
	default:
		m.fail(4)
	}
}

func (m *model) fail(err int) {
	m.err, m.ended, m.asked, m.doing = err, true, true, ""
}

func (m *model) readNext() {
	if m.place >= len(m.sectors) {
		m.fail(16)
		return
	}
	m.doing, m.left, m.asked = "read", slices.Clone(m.sectors[m.place]), true
}

func (m *model) writeNext() {
	if m.place >= len(m.sectors) {
		m.fail(16)
		return
	}
	m.doing, m.got = "write", nil
}

func (m *model) takeByte(b byte) {
	if m.other() || m.doing != "write" {
		return
	}
	m.got = append(m.got, b)
	if len(m.got) < 512 {
		return
	}
	if m.place >= len(m.sectors) {
		m.fail(16)
		return
	}
	m.sectors[m.place] = slices.Clone(m.got)
	m.written = append(m.written, m.place)
	m.asked = true
	if m.oneDone() {
		m.writeNext()
	}
}

// oneDone tells whether there is more to do.
func (m *model) oneDone() bool {
	m.place = (m.place + 1) % (1 << 28)
	m.count = (m.count + 255) % 256
	if m.count == 0 {
		m.doing = ""
	}
	return m.count != 0
}

func (m *model) giveByte() byte {
	if m.other() {
		return 0
	}
	if m.doing != "read" && m.doing != "tell" {
		return 255
	}
	b := m.left[0]
	m.left = m.left[1:]
	if len(m.left) > 0 {
		return b
	}
	if m.doing == "tell" {
		m.doing = ""
	} else if m.oneDone() {
		m.readNext()
	}
	return b
}

// P14.3 and P14.4, register by register.
func (m *model) in(reg, size int) (uint32, api.Errno) {
	if reg == 0 {
		if size != 1 && size != 2 && size != 4 {
			return 0, api.ErrSize
		}
		v, times := 0, 1
		for range size {
			v += int(m.giveByte()) * times
			times *= 256
		}
		return uint32(v), api.OK
	}
	if reg < 0 || reg > 8 {
		return 0, api.ErrArg
	}
	if m.other() && reg != 6 {
		return 0, api.OK
	}
	v := 0
	switch reg {
	case 1:
		v = m.err
	case 2:
		v = m.count
	case 3:
		v = m.place % 256
	case 4:
		v = m.place / 256 % 256
	case 5:
		v = m.place / 65536 % 256
	case 6:
		v = m.place/(1<<24) + m.flags
	case 7:
		m.asked = false
		v = m.status()
	case 8:
		v = m.status()
	}
	return uint32(v), api.OK
}

func (m *model) status() int {
	v := 80
	if m.doing != "" {
		v += 8
	}
	if m.ended {
		v++
	}
	return v
}

func (m *model) line() bool { return m.asked && m.control/2%2 == 0 }

func (m *model) told() []int {
	written := m.written
	m.written = nil
	return written
}

// bench says the same to an Ide and to a model, and holds their answers against each other.
type bench struct {
	t *testing.T
	d *Ide
	m *model
}

func newBench(t *testing.T, disk []byte) *bench {
	t.Helper()
	return &bench{t, made(t, disk), newModel(disk)}
}

func (b *bench) out(reg, size int, v uint32) {
	b.t.Helper()
	if err, want := b.d.Out(reg, size, v), b.m.out(reg, size, v); err != want {
		b.t.Fatalf("Out(%d, %d, %x): %d, want %d", reg, size, v, err, want)
	}
	b.line()
}

func (b *bench) in(reg, size int) {
	b.t.Helper()
	v, err := b.d.In(reg, size)
	want, wantErr := b.m.in(reg, size)
	if v != want || err != wantErr {
		b.t.Fatalf("In(%d, %d): %x, %d, want %x, %d", reg, size, v, err, want, wantErr)
	}
	b.line()
}

func (b *bench) line() {
	b.t.Helper()
	if up, want := b.d.Line(), b.m.line(); up != want {
		b.t.Fatalf("Line: %v, want %v", up, want)
	}
}

func (b *bench) written() {
	b.t.Helper()
	if told, want := b.d.Written(), b.m.told(); !slices.Equal(told, want) {
		b.t.Fatalf("Written: %d, want %d", told, want)
	}
}

func (b *bench) disk() {
	b.t.Helper()
	if !bytes.Equal(b.d.Disk(), slices.Concat(b.m.sectors...)) {
		b.t.Fatal("Disk: other bytes")
	}
}

// end asks all that there is, so that what is kept unseen comes out too: what another drive hides, a mark that control hides, and what is left of the buffer.
func (b *bench) end() {
	b.t.Helper()
	for round := range 2 {
		for reg := -1; reg <= 9; reg++ {
			if reg != 7 && reg != 0 {
				b.in(reg, reg)
			}
		}
		b.written()
		b.disk()
		if round == 0 {
			b.out(8, 1, 0)
			b.out(6, 1, uint32(0x40+b.m.place>>24))
		}
	}
	b.in(7, 1)
	for range 130 {
		b.in(0, 4)
		b.out(0, 4, 0xA5C3F00F)
	}
	for reg := 1; reg <= 8; reg++ {
		b.in(reg, 1)
	}
	b.written()
	b.disk()
}

func made(t *testing.T, disk []byte) *Ide {
	t.Helper()
	d, err := New(disk)
	if d == nil || err != api.OK {
		t.Fatalf("New of %d bytes: %v, %d", len(disk), d != nil, err)
	}
	return d
}

// filled is a disk no two sectors of which are alike, nor are a sector's bytes.
func filled(sectors int) []byte {
	disk := []byte{}
	for n := range sectors {
		for i := range 512 {
			disk = append(disk, byte(n*37+i*7+i/256*3+11))
		}
	}
	return disk
}

func sectorOf(disk []byte, n int) []byte { return disk[n*512 : n*512+512] }

// row is a sector that begins with some byte.
func row(first int) []byte {
	list := make([]byte, 512)
	for i := range list {
		list[i] = byte(first + i*3 + i/256)
	}
	return list
}

// outs writes to registers, in pairs of register and value.
func outs(t *testing.T, d *Ide, pairs ...uint32) {
	t.Helper()
	for n := 0; n < len(pairs); n += 2 {
		if err := d.Out(int(pairs[n]), 1, pairs[n+1]); err != api.OK {
			t.Fatalf("Out(%d, 1, %x): %d", pairs[n], pairs[n+1], err)
		}
	}
}

// at sets the place, and that one is meant, and the count.
func at(t *testing.T, d *Ide, place, count int) {
	t.Helper()
	outs(t, d, 2, uint32(count), 3, uint32(place%256), 4, uint32(place/256%256), 5, uint32(place/65536%256), 6, uint32(0x40+place>>24))
}

func placeIs(t *testing.T, d *Ide, place, count int) {
	t.Helper()
	reads(t, d, 2, uint32(count))
	reads(t, d, 3, uint32(place%256))
	reads(t, d, 4, uint32(place/256%256))
	reads(t, d, 5, uint32(place/65536%256))
	reads(t, d, 6, uint32(0x40+place>>24))
}

// reads reads a register again and again.
func reads(t *testing.T, d *Ide, reg int, want ...uint32) {
	t.Helper()
	for n, w := range want {
		if v, err := d.In(reg, 1); v != w || err != api.OK {
			t.Errorf("In(%d), time %d: %d, %d, want %d", reg, n+1, v, err, w)
		}
	}
}

// drain reads n bytes of the data by one size.
func drain(t *testing.T, d *Ide, size, n int) []byte {
	t.Helper()
	list := []byte{}
	for len(list) < n {
		v, err := d.In(0, size)
		if err != api.OK {
			t.Fatalf("In(0, %d): %d", size, err)
		}
		if size < 4 && v>>(8*size) != 0 {
			t.Fatalf("In(0, %d): %x has more bytes", size, v)
		}
		for range size {
			list = append(list, byte(v))
			v >>= 8
		}
	}
	return list
}

func drains(t *testing.T, d *Ide, size int, want []byte) {
	t.Helper()
	if list := drain(t, d, size, len(want)); !bytes.Equal(list, want) {
		t.Errorf("data of %d bytes by %d: other bytes", len(want), size)
	}
}

// fill writes bytes to the data by one size; bits above the size are set, to be lost.
func fill(t *testing.T, d *Ide, size int, list []byte) {
	t.Helper()
	for n := 0; n < len(list); n += size {
		v := uint32(math.MaxUint32)
		for i := range size {
			v = v&^(255<<(8*i)) | uint32(list[n+i])<<(8*i)
		}
		if err := d.Out(0, size, v); err != api.OK {
			t.Fatalf("Out(0, %d, %x): %d", size, v, err)
		}
	}
}

func lineIs(t *testing.T, d *Ide, want bool) {
	t.Helper()
	if up := d.Line(); up != want {
		t.Errorf("Line: %v, want %v", up, want)
	}
}

// ended holds how it is: error, line and status, the mark taken away by 7 alone.
func ended(t *testing.T, d *Ide, err, status uint32, line bool) {
	t.Helper()
	lineIs(t, d, line)
	reads(t, d, 1, err, err)
	reads(t, d, 8, status, status)
	lineIs(t, d, line)
	reads(t, d, 7, status)
	lineIs(t, d, false)
	reads(t, d, 7, status)
	reads(t, d, 1, err)
}

func tells(t *testing.T, d *Ide, want ...int) {
	t.Helper()
	if written := d.Written(); !slices.Equal(written, want) {
		t.Errorf("Written: %d, want %d", written, want)
	}
}

func diskIs(t *testing.T, d *Ide, want []byte) {
	t.Helper()
	if !bytes.Equal(d.Disk(), want) {
		t.Error("Disk: other bytes")
	}
}

func isFresh(t *testing.T, d *Ide) {
	t.Helper()
	lineIs(t, d, false)
	for reg, want := range []uint32{255, 1, 1, 1, 0, 0, 0, 80, 80} {
		reads(t, d, reg, want, want)
	}
	lineIs(t, d, false)
	reads(t, d, 1, 1)
}

// The chapter's examples, one behind the other on one disk and each on a new one.
func TestExamples(t *testing.T) {
	disk := slices.Concat(bytes.Repeat([]byte{1}, 512), bytes.Repeat([]byte{2}, 512))
	rows := []func(d *Ide){
		func(d *Ide) {
			outs(t, d, 6, 0x40, 3, 1, 2, 1, 7, 0x20)
			reads(t, d, 7, 88)
			if v, err := d.In(0, 2); v != 514 || err != api.OK {
				t.Errorf("In(0, 2): %d, %d", v, err)
			}
		},
		func(d *Ide) {
			outs(t, d, 6, 0, 7, 0x20)
			reads(t, d, 7, 81)
			reads(t, d, 1, 4)
		},
		func(d *Ide) {
			outs(t, d, 6, 0x40, 3, 2, 7, 0x20)
			reads(t, d, 1, 16)
		},
	}
	together := made(t, disk)
	for _, example := range rows {
		example(made(t, disk))
		example(together)
	}
}

// P14.1: disks that may be and that may not.
func TestNew(t *testing.T) {
	for sectors := range 65 {
		d := made(t, filled(sectors))
		diskIs(t, d, filled(sectors))
		isFresh(t, d)
		tells(t, d)
	}
	diskIs(t, made(t, nil), nil)
	diskIs(t, made(t, []byte{}), nil)
	for _, n := range []int{1, 256, 511, 513, 1023, 1025, 64*512 - 1, 64*512 + 1, 65*512 - 1, 65 * 512, 65*512 + 1, 66 * 512, 128 * 512, 1 << 20} {
		if d, err := New(make([]byte, n)); d != nil || err != api.ErrDisk {
			t.Errorf("New of %d bytes: %v, %d", n, d != nil, err)
		}
	}
}

// R4: neither the list that was handed in nor one that Disk told is the disk, and none is changed.
func TestDiskIsNew(t *testing.T) {
	room := slices.Concat(filled(3), row(9))
	given := room[:3*512]
	d := made(t, given)
	if !bytes.Equal(room, slices.Concat(filled(3), row(9))) {
		t.Error("what was handed in is changed")
	}
	for i := range room {
		room[i] = 99
	}
	diskIs(t, d, filled(3))
	for range 2 {
		told := d.Disk()
		told = told[:cap(told)]
		for i := range told {
			told[i] = 98
		}
		diskIs(t, d, filled(3))
		at(t, d, 1, 1)
		outs(t, d, 7, 0x20)
		drains(t, d, 4, sectorOf(filled(3), 1))
	}
	told := d.Disk()
	at(t, d, 2, 1)
	outs(t, d, 7, 0x30)
	fill(t, d, 4, row(5))
	if !bytes.Equal(told, filled(3)) || bytes.Count(room, []byte{99}) != len(room) {
		t.Error("a list of another's was changed by writing")
	}
}

// P14.1: it is one more at each call.
func TestNewAlone(t *testing.T) {
	first, second := made(t, filled(2)), newBench(t, filled(2))
	at(t, first, 0, 2)
	outs(t, first, 8, 2, 7, 0x30)
	fill(t, first, 4, row(1))
	second.end()
}

// busy are disks in the middle of something: each way to come there.
func busy() []func(b *bench) {
	begin := func(command uint32) func(b *bench) {
		return func(b *bench) {
			b.out(2, 1, 3)
			b.out(3, 1, 1)
			b.out(6, 1, 0xE0)
			b.out(7, 1, command)
			for n := range 100 {
				b.in(0, 2)
				b.out(0, 2, uint32(n*773))
			}
		}
	}
	return []func(b *bench){
		func(b *bench) {},
		begin(0x20), begin(0x30), begin(0xEC), begin(0xE7), begin(0),
		func(b *bench) { b.out(7, 1, 0x20) },
		func(b *bench) { b.out(3, 1, 200); b.out(6, 1, 0x40); b.out(7, 1, 0x30) },
		func(b *bench) { begin(0x20)(b); b.out(6, 1, 0x50) },
		func(b *bench) { begin(0x30)(b); b.out(6, 1, 0x5F) },
		func(b *bench) { begin(0x20)(b); b.out(8, 1, 2) },
		func(b *bench) { begin(0x30)(b); b.out(8, 1, 2) },
	}
}

// P14.1: registers that are none, at any size; nothing has changed then (R3).
func TestRegisters(t *testing.T) {
	for _, get := range busy() {
		for _, reg := range []int{-1, 9, -2, 10, -8, 16, 256, -256, 255, 1 << 32, math.MaxInt, math.MinInt} {
			b := newBench(t, filled(4))
			get(b)
			for _, size := range []int{0, 1, 2, 3, 4, 5, -1} {
				for _, v := range []uint32{0, 4, 0x20, math.MaxUint32} {
					if err := b.d.Out(reg, size, v); err != api.ErrArg {
						t.Errorf("Out(%d, %d, %x): %d", reg, size, v, err)
					}
				}
				if v, err := b.d.In(reg, size); v != 0 || err != api.ErrArg {
					t.Errorf("In(%d, %d): %d, %d", reg, size, v, err)
				}
			}
			b.line()
			b.end()
		}
	}
}

// P14.1: sizes of the data that are none, also where the bytes would be lost; nothing has changed then (R3).
func TestSizes(t *testing.T) {
	for _, get := range busy() {
		for _, size := range []int{0, 3, 5, -1, -2, -4, 6, 8, 16, 512, 1<<32 + 1, 1<<32 + 4, math.MaxInt, math.MinInt} {
			b := newBench(t, filled(4))
			get(b)
			for range 3 {
				if err := b.d.Out(0, size, 0x01020304); err != api.ErrSize {
					t.Errorf("Out(0, %d): %d", size, err)
				}
				if v, err := b.d.In(0, size); v != 0 || err != api.ErrSize {
					t.Errorf("In(0, %d): %d, %d", size, v, err)
				}
			}
			b.line()
			b.end()
		}
	}
}

// P14.1: of other registers size is not looked at, and of v the lowest byte alone.
func TestAnySize(t *testing.T) {
	for _, size := range []int{0, 1, 2, 3, 4, 5, -1, math.MaxInt, math.MinInt} {
		for _, more := range []uint32{0, 0x100, 0xFFFFFF00, 0x20202000, 0x10101000} {
			d := made(t, filled(3))
			for _, c := range []struct {
				reg int
				v   uint32
			}{{1, 9}, {2, 1}, {3, 2}, {4, 0}, {5, 0}, {6, 0xE0}, {8, 0}, {7, 0x20}} {
				if err := d.Out(c.reg, size, more+c.v); err != api.OK {
					t.Errorf("Out(%d, %d, %x): %d", c.reg, size, more+c.v, err)
				}
			}
			lineIs(t, d, true)
			for n, want := range []uint32{0, 1, 2, 0, 0, 0xE0, 88, 88} {
				if v, err := d.In(n+1, size); v != want || err != api.OK {
					t.Errorf("In(%d, %d): %d, %d, want %d", n+1, size, v, err, want)
				}
			}
			lineIs(t, d, false)
			drains(t, d, 1, sectorOf(filled(3), 2))
		}
	}
}

// P14.2, P14.4: registers 2 to 6 with each byte, and no other register with them; 1 can't be written.
func TestEachRegister(t *testing.T) {
	for reg := 1; reg <= 6; reg++ {
		for v := range uint32(256) {
			d := made(t, filled(1))
			want := []uint32{0, 1, 1, 1, 0, 0, 0, 80, 80}
			if reg > 1 {
				want[reg] = v
			}
			if reg == 6 && v&16 != 0 {
				want = []uint32{0, 0, 0, 0, 0, 0, v, 0, 0}
			}
			outs(t, d, uint32(reg), v)
			for n := 1; n <= 8; n++ {
				reads(t, d, n, want[n], want[n])
			}
			lineIs(t, d, false)
			outs(t, d, 6, 0)
			if reg < 6 {
				reads(t, d, reg, want[reg])
			}
			outs(t, d, uint32(reg), 0)
			if reg > 1 {
				reads(t, d, reg, 0)
			} else {
				reads(t, d, reg, 1)
			}
		}
	}
}

// P14.2: the features, written behind an error and in the middle of a read, say nothing.
func TestFeatures(t *testing.T) {
	d := made(t, filled(1))
	outs(t, d, 7, 0x20, 1, 77)
	ended(t, d, 4, 81, true)
	outs(t, d, 3, 0, 6, 0x40, 7, 0x20, 1, 77)
	ended(t, d, 0, 88, true)
	drains(t, d, 2, filled(1))
}

// P14.2, P14.5: control with bit 1 hides the mark, and takes it away from nobody.
func TestControlHides(t *testing.T) {
	for v := range uint32(256) {
		if v&4 != 0 {
			continue
		}
		d := made(t, filled(2))
		at(t, d, 0, 2)
		outs(t, d, 7, 0x20)
		lineIs(t, d, true)
		outs(t, d, 8, v)
		lineIs(t, d, v&2 == 0)
		reads(t, d, 8, 88)
		outs(t, d, 8, 0)
		lineIs(t, d, true)
		drains(t, d, 2, sectorOf(filled(2), 0)[:100])

		outs(t, d, 8, v)
		reads(t, d, 7, 88)
		lineIs(t, d, false)
		outs(t, d, 8, 0)
		lineIs(t, d, false)

		outs(t, d, 8, v)
		drains(t, d, 2, sectorOf(filled(2), 0)[100:])
		lineIs(t, d, v&2 == 0)
		outs(t, d, 8, 0)
		ended(t, d, 0, 88, true)
	}
}

// P14.2: control with bit 2, alone and with others: fresh but for control, whatever went on; the disk stays, and what was written is told.
func TestControlStarts(t *testing.T) {
	for _, get := range busy() {
		for _, v := range []uint32{4, 6, 5, 0x84, 0xFC, 0xFE, 0xFF, 0x104} {
			b := newBench(t, filled(4))
			get(b)
			b.out(8, 1, v)
			isFresh(t, b.d)
			diskIs(t, b.d, filled(4))
			tells(t, b.d)
			b.in(7, 1)
			b.out(7, 1, 0xE7)
			lineIs(t, b.d, v&2 == 0)
			b.out(8, 1, 0)
			ended(t, b.d, 0, 80, true)
			b.in(7, 1)
			b.end()
		}
	}
	d := made(t, filled(3))
	at(t, d, 0, 3)
	outs(t, d, 7, 0x30)
	fill(t, d, 4, row(1))
	fill(t, d, 4, row(2)[:508])
	outs(t, d, 8, 4)
	fill(t, d, 4, row(2)[508:])
	isFresh(t, d)
	tells(t, d, 0)
	diskIs(t, d, slices.Concat(row(1), filled(3)[512:]))
}

// P14.2: bit 2 of control acts when it is written, not while it stays set.
func TestControlStartsOnce(t *testing.T) {
	d := made(t, filled(2))
	outs(t, d, 8, 4)
	at(t, d, 1, 1)
	outs(t, d, 7, 0x21)
	ended(t, d, 0, 88, true)
	drains(t, d, 4, sectorOf(filled(2), 1))
}

// P14.2, P14.4: with the drive set every register but 6 is 0, data is lost and commands do nothing; without it again all is as it was.
func TestOtherDrive(t *testing.T) {
	for _, get := range busy() {
		for flags := uint32(0x10); flags <= 0xF0; flags += 0x20 {
			b := newBench(t, filled(4))
			get(b)
			// The model hears nothing of the drive, so that all must be as it was in the end.
			d, line := b.d, b.d.Line()
			head, _ := d.In(6, 1)
			outs(t, d, 6, flags+3)
			for _, reg := range []int{1, 2, 3, 4, 5, 7, 8} {
				reads(t, d, reg, 0, 0)
			}
			reads(t, d, 6, flags+3, flags+3)
			for _, size := range []int{1, 2, 4} {
				drains(t, d, size, make([]byte, 600))
				fill(t, d, size, row(3))
			}
			for _, command := range []uint32{0x20, 0x21, 0x30, 0x31, 0xEC, 0xE7, 0x91, 0, 0xFF} {
				outs(t, d, 7, command)
				reads(t, d, 8, 0)
				drains(t, d, 4, make([]byte, 4))
				lineIs(t, d, line)
			}
			outs(t, d, 6, head)
			b.line()
			b.end()
		}
	}
}

// P14.2: with the drive set registers and control are written all the same.
func TestOtherDriveRegisters(t *testing.T) {
	d := made(t, filled(4))
	outs(t, d, 6, 0x51, 2, 3, 3, 4, 4, 5, 5, 6, 1, 7)
	outs(t, d, 6, 0x41)
	placeIs(t, d, 0x1060504, 3)
	reads(t, d, 1, 1)

	outs(t, d, 7, 0xE7, 6, 0x50, 8, 2)
	lineIs(t, d, false)
	outs(t, d, 8, 0)
	lineIs(t, d, true)
	outs(t, d, 8, 4)
	isFresh(t, d)
}

// outcome is what a command comes to at some place of a disk.
type outcome struct {
	err, status uint32
	line        bool
}

func outcomeOf(command, head uint32, isThere bool) outcome {
	switch command {
	case 0x20, 0x21, 0x30, 0x31:
		if head&0x40 == 0 {
			return outcome{4, 81, true}
		}
		if !isThere {
			return outcome{16, 81, true}
		}
		return outcome{0, 88, command < 0x30}
	case 0xEC:
		return outcome{0, 88, true}
	case 0xE7, 0x91:
		return outcome{0, 80, true}
	}
	return outcome{4, 81, true}
}

// P14.2: every command, with the head's bit 6 set and not set and all that is beside it, at places with a sector and without; registers stay.
func TestCommands(t *testing.T) {
	for command := range uint32(256) {
		for _, flags := range []uint32{0x40, 0, 0xE0, 0xA0, 0x60, 0xC0, 0x80, 0x20} {
			for _, c := range []struct {
				low, middle, high, upper uint32
				isThere                  bool
			}{
				{0, 0, 0, 0, true}, {2, 0, 0, 0, true}, {3, 0, 0, 0, false}, {255, 0, 0, 0, false},
				{0, 1, 0, 0, false}, {0, 128, 0, 0, false}, {0, 0, 1, 0, false}, {0, 0, 255, 0, false},
				{0, 0, 0, 1, false}, {0, 0, 0, 2, false}, {0, 0, 0, 4, false}, {0, 0, 0, 8, false}, {255, 255, 255, 15, false},
			} {
				d := made(t, filled(3))
				outs(t, d, 2, 1, 3, c.low, 4, c.middle, 5, c.high, 6, flags+c.upper, 7, command)
				want := outcomeOf(command, flags, c.isThere)
				ended(t, d, want.err, want.status, want.line)
				for n, v := range []uint32{1, c.low, c.middle, c.high, flags + c.upper} {
					reads(t, d, n+2, v)
				}
				if want.status == 88 && command < 0x30 {
					drains(t, d, 4, sectorOf(filled(3), int(c.low)))
					reads(t, d, 8, 80)
				}
				if t.Failed() {
					t.Fatalf("command %x, head %x, %v", command, flags, c)
				}
			}
		}
	}
}

// P14.2: on a disk of no sectors nothing can be read or written, and on one of 64 the last is 63.
func TestEdgesOfDisks(t *testing.T) {
	for _, sectors := range []int{0, 1, 2, 63, 64} {
		for _, place := range []int{0, sectors - 1, sectors, 64, 255, 256} {
			if place < 0 {
				continue
			}
			for _, command := range []uint32{0x20, 0x21, 0x30, 0x31} {
				d := made(t, filled(sectors))
				at(t, d, place, 1)
				outs(t, d, 7, command)
				want := outcomeOf(command, 0x40, place < sectors)
				ended(t, d, want.err, want.status, want.line)
				fill(t, d, 4, row(7))
				if command >= 0x30 && place < sectors {
					tells(t, d, place)
					diskIs(t, d, slices.Concat(filled(sectors)[:place*512], row(7), filled(sectors)[place*512+512:]))
				} else {
					tells(t, d)
					diskIs(t, d, filled(sectors))
				}
			}
		}
	}
}

// P14.2: a command takes away the mark and the error of the one ahead of it, and what went on.
func TestCommandBehindAnother(t *testing.T) {
	all := []uint32{0x20, 0x21, 0x30, 0x31, 0xEC, 0xE7, 0x91, 0, 0xFF}
	for _, first := range all {
		for _, second := range all {
			for _, flags := range []uint32{0, 0x40} {
				for _, place := range []uint32{1, 9} {
					d := made(t, filled(2))
					outs(t, d, 6, 0x40, 2, 2, 7, first)
					drain(t, d, 2, 100)
					fill(t, d, 2, row(5)[:100])
					outs(t, d, 3, place, 6, flags, 7, second)
					want := outcomeOf(second, flags, place == 1)
					ended(t, d, want.err, want.status, want.line)
					tells(t, d)
					diskIs(t, d, filled(2))
					if want.status != 88 {
						drains(t, d, 1, []byte{255, 255})
						continue
					}
					switch second {
					case 0x20, 0x21:
						drains(t, d, 2, sectorOf(filled(2), 1))
					case 0x30, 0x31:
						fill(t, d, 2, row(8))
						tells(t, d, 1)
						diskIs(t, d, slices.Concat(filled(2)[:512], row(8)))
					case 0xEC:
						drains(t, d, 1, []byte{64, 0, 0, 0})
					}
				}
			}
		}
	}
}

// told is what EC tells.
func told(sectors int) []byte {
	list := make([]byte, 512)
	list[0], list[99], list[120] = 64, 2, byte(sectors)
	return list
}

// P14.2: the whole of what EC tells, and that nothing follows it: neither place nor count goes on.
func TestTells(t *testing.T) {
	for _, sectors := range []int{0, 1, 2, 63, 64} {
		for _, flags := range []uint32{0, 0x40, 0xE0} {
			for _, size := range []int{1, 2, 4} {
				d := made(t, filled(sectors))
				outs(t, d, 2, 3, 3, 0, 6, flags)
				// A buffer that was used ahead leaves nothing behind.
				outs(t, d, 7, 0x20)
				drain(t, d, 4, 100)
				outs(t, d, 7, 0xEC)
				ended(t, d, 0, 88, true)
				drains(t, d, size, told(sectors))
				ended(t, d, 0, 80, false)
				drains(t, d, size, []byte{255, 255, 255, 255})
				for n, v := range []uint32{3, 0, 0, 0, flags} {
					reads(t, d, n+2, v)
				}
			}
		}
	}
}

// P14.2: what EC tells, by four bytes, and over its end.
func TestTellsOverEnd(t *testing.T) {
	d := made(t, filled(5))
	outs(t, d, 6, 0x40, 3, 0, 2, 9, 7, 0xEC)
	want := told(5)
	drains(t, d, 1, want[:1])
	drains(t, d, 4, want[1:509])
	if v, err := d.In(0, 4); v != 0xFF000000 || err != api.OK {
		t.Errorf("over the end: %x, %d", v, err)
	}
	ended(t, d, 0, 80, true)
	placeIs(t, d, 0, 9)

	outs(t, d, 7, 0xEC)
	fill(t, d, 4, row(1))
	drains(t, d, 4, want)
	diskIs(t, d, filled(5))
	tells(t, d)
}

// P14.3: a sector read by each size, and what follows it.
func TestRead(t *testing.T) {
	for _, command := range []uint32{0x20, 0x21} {
		for _, size := range []int{1, 2, 4} {
			for place := range 4 {
				d := made(t, filled(4))
				at(t, d, place, 1)
				outs(t, d, 7, command)
				drains(t, d, size, sectorOf(filled(4), place)[:512-size])
				ended(t, d, 0, 88, true)
				placeIs(t, d, place, 1)
				drains(t, d, size, sectorOf(filled(4), place)[512-size:])
				ended(t, d, 0, 80, false)
				placeIs(t, d, place+1, 0)
				drains(t, d, size, []byte{255, 255, 255, 255})
				ended(t, d, 0, 80, false)
				placeIs(t, d, place+1, 0)
				diskIs(t, d, filled(4))
				tells(t, d)
			}
		}
	}
}

// P14.3: a sector written by each size, and what follows it.
func TestWrite(t *testing.T) {
	for _, command := range []uint32{0x30, 0x31} {
		for _, size := range []int{1, 2, 4} {
			for place := range 4 {
				d := made(t, filled(4))
				at(t, d, place, 1)
				outs(t, d, 7, command)
				fill(t, d, size, row(6)[:512-size])
				ended(t, d, 0, 88, false)
				placeIs(t, d, place, 1)
				diskIs(t, d, filled(4))
				tells(t, d)
				fill(t, d, size, row(6)[512-size:])
				ended(t, d, 0, 80, true)
				placeIs(t, d, place+1, 0)
				fill(t, d, size, row(70))
				ended(t, d, 0, 80, false)
				placeIs(t, d, place+1, 0)
				diskIs(t, d, slices.Concat(filled(4)[:place*512], row(6), filled(4)[place*512+512:]))
				tells(t, d, place)
			}
		}
	}
}

// P14.3: data is 255 where nothing is read, in the middle of a write too, and lost where nothing is written; nothing goes on by it.
func TestDataOfNobody(t *testing.T) {
	for _, size := range []int{1, 2, 4} {
		d := made(t, filled(2))
		drains(t, d, size, bytes.Repeat([]byte{255}, 1200))
		fill(t, d, size, row(1))
		isFresh(t, d)

		at(t, d, 0, 2)
		outs(t, d, 7, 0x30)
		fill(t, d, size, row(1)[:256])
		drains(t, d, size, bytes.Repeat([]byte{255}, 1200))
		ended(t, d, 0, 88, false)
		fill(t, d, size, row(1)[256:])
		diskIs(t, d, slices.Concat(row(1), filled(2)[512:]))
		tells(t, d, 0)

		at(t, d, 1, 1)
		outs(t, d, 7, 0x20)
		drains(t, d, size, sectorOf(filled(2), 1)[:256])
		fill(t, d, size, row(2))
		ended(t, d, 0, 88, true)
		drains(t, d, size, sectorOf(filled(2), 1)[256:])
		diskIs(t, d, slices.Concat(row(1), filled(2)[512:]))
		tells(t, d)
	}
}

// P14.3: calls that go over the end of a sector: what they read is the next one's, or 255 behind the last.
func TestReadOverEnd(t *testing.T) {
	all := filled(3)
	for ahead := range 4 {
		d := made(t, all)
		at(t, d, 0, 2)
		outs(t, d, 7, 0x20)
		drains(t, d, 1, all[:ahead])
		drains(t, d, 4, all[ahead:ahead+508])
		ended(t, d, 0, 88, true)
		drains(t, d, 4, all[ahead+508:ahead+512])
		ended(t, d, 0, 88, true)
		placeIs(t, d, 1, 1)
		drains(t, d, 4, all[ahead+512:ahead+1020])
		last := slices.Concat(all[ahead+1020:1024], []byte{255, 255, 255, 255}[:ahead])
		drains(t, d, 4, last)
		ended(t, d, 0, 80, false)
		placeIs(t, d, 2, 0)
	}
}

// P14.3: calls that go over the end of a sector: what they write is the next one's, or lost behind the last.
func TestWriteOverEnd(t *testing.T) {
	all := slices.Concat(row(1), row(100), row(50))
	for ahead := range 4 {
		d := made(t, filled(3))
		at(t, d, 0, 2)
		outs(t, d, 7, 0x30)
		fill(t, d, 1, all[:ahead])
		fill(t, d, 4, all[ahead:ahead+512])
		ended(t, d, 0, 88, true)
		placeIs(t, d, 1, 1)
		tells(t, d, 0)
		fill(t, d, 4, all[ahead+512:ahead+1020])
		ended(t, d, 0, 88, false)
		fill(t, d, 4, all[ahead+1020:ahead+1024])
		ended(t, d, 0, 80, true)
		placeIs(t, d, 2, 0)
		tells(t, d, 1)
		diskIs(t, d, slices.Concat(all[:1024], filled(3)[1024:]))
	}
}

// P14.3: sizes mixed as they come.
func TestMixedSizes(t *testing.T) {
	for seed := range uint64(50) {
		draw := numbers(seed)
		d := made(t, filled(8))
		at(t, d, 0, 8)
		outs(t, d, 7, 0x20)
		list := []byte{}
		for len(list) < 8*512 {
			size := 1 << draw(3)
			list = append(list, drain(t, d, size, size)...)
		}
		if !bytes.Equal(list[:8*512], filled(8)) || bytes.Count(list[8*512:], []byte{255}) != len(list)-8*512 {
			t.Fatal("other bytes were read")
		}
		ended(t, d, 0, 80, true)

		content := slices.Concat(row(draw(256)), row(draw(256)), row(draw(256)), row(draw(256)))
		at(t, d, 3, 4)
		outs(t, d, 7, 0x30)
		for left := slices.Concat(content, row(1)); len(left) > 512; {
			size := 1 << draw(3)
			fill(t, d, size, left[:size])
			left = left[size:]
		}
		ended(t, d, 0, 80, true)
		tells(t, d, 3, 4, 5, 6)
		diskIs(t, d, slices.Concat(filled(8)[:3*512], content, filled(8)[7*512:]))
	}
}

// P14.3: counts of several sectors: a mark at each that is read, and the place and the count behind each.
func TestReadCounts(t *testing.T) {
	for _, n := range []int{1, 2, 3, 63, 64} {
		d := made(t, filled(64))
		at(t, d, 0, n)
		outs(t, d, 7, 0x20)
		for place := range n {
			ended(t, d, 0, 88, true)
			placeIs(t, d, place, n-place)
			drains(t, d, 4, sectorOf(filled(64), place))
		}
		ended(t, d, 0, 80, false)
		placeIs(t, d, n, 0)
	}
}

// P14.3: counts of several sectors: a mark behind each that is written, the last one too.
func TestWriteCounts(t *testing.T) {
	for _, n := range []int{1, 2, 3, 63, 64} {
		d := made(t, filled(64))
		want := filled(64)
		at(t, d, 64-n, n)
		outs(t, d, 7, 0x31)
		lineIs(t, d, false)
		for i := range n {
			place := 64 - n + i
			reads(t, d, 8, 88)
			placeIs(t, d, place, n-i)
			fill(t, d, 4, row(i))
			copy(sectorOf(want, place), row(i))
			status := uint32(88)
			if i == n-1 {
				status = 80
			}
			ended(t, d, 0, status, true)
			tells(t, d, place)
		}
		placeIs(t, d, 64, 0)
		diskIs(t, d, want)
	}
}

// P14.2, P14.3: a count of 0 is 256 of them. The place is set back at each, since there are not so many.
func TestCountOfNought(t *testing.T) {
	read := made(t, filled(2))
	at(t, read, 1, 0)
	outs(t, read, 7, 0x20)
	written := made(t, filled(2))
	at(t, written, 1, 0)
	outs(t, written, 7, 0x30)
	for n := range 256 {
		for _, d := range []*Ide{read, written} {
			reads(t, d, 8, 88)
			placeIs(t, d, 1, (256-n)%256)
			outs(t, d, 3, 0)
		}
		drains(t, read, 4, sectorOf(filled(2), 1))
		fill(t, written, 4, row(n))
		tells(t, written, 0)
	}
	for _, d := range []*Ide{read, written} {
		ended(t, d, 0, 80, true)
		placeIs(t, d, 1, 0)
	}
	diskIs(t, read, filled(2))
	diskIs(t, written, slices.Concat(row(255), filled(2)[512:]))
}

// P14.3: a count that goes behind the last sector, in reading.
func TestReadBehindDisk(t *testing.T) {
	for _, n := range []int{0, 3, 255} {
		d := made(t, filled(4))
		at(t, d, 2, n)
		outs(t, d, 7, 0x20)
		reads(t, d, 7, 88)
		drains(t, d, 4, sectorOf(filled(4), 2))
		ended(t, d, 0, 88, true)
		drains(t, d, 1, sectorOf(filled(4), 3)[:1])
		drains(t, d, 4, sectorOf(filled(4), 3)[1:509])
		drains(t, d, 4, slices.Concat(sectorOf(filled(4), 3)[509:], []byte{255}))
		ended(t, d, 16, 81, true)
		placeIs(t, d, 4, (n+254)%256)
		drains(t, d, 2, []byte{255, 255})
		ended(t, d, 16, 81, false)
		diskIs(t, d, filled(4))
		tells(t, d)
	}
}

// P14.3: a count that goes behind the last sector, in writing.
func TestWriteBehindDisk(t *testing.T) {
	for _, n := range []int{0, 3, 255} {
		d := made(t, filled(4))
		at(t, d, 2, n)
		outs(t, d, 7, 0x30)
		fill(t, d, 4, row(1))
		ended(t, d, 0, 88, true)
		fill(t, d, 1, row(2)[:1])
		fill(t, d, 4, slices.Concat(row(2)[1:], []byte{77}))
		ended(t, d, 16, 81, true)
		placeIs(t, d, 4, (n+254)%256)
		fill(t, d, 4, row(3))
		ended(t, d, 16, 81, false)
		diskIs(t, d, slices.Concat(filled(4)[:1024], row(1), row(2)))
		tells(t, d, 2, 3)
	}
}

// P14.3: the place goes on over its bytes' ends; the head's other bits stay.
func TestPlaceGoesOn(t *testing.T) {
	for _, c := range []struct{ from, to int }{
		{0xFE, 0xFF}, {0xFF, 0x100}, {0x1FF, 0x200}, {0xFFFF, 0x10000}, {0x12FFFF, 0x130000},
		{0xFFFFFF, 0x1000000}, {0xEFFFFFF, 0xF000000}, {0xFFFFFFE, 0xFFFFFFF}, {0xFFFFFFF, 0}, {0x7FFFFFF, 0x8000000},
	} {
		for _, flags := range []int{0, 0x40, 0xA0, 0xE0} {
			for _, n := range []int{1, 2} {
				d := made(t, filled(2))
				at(t, d, 1, n)
				outs(t, d, 7, 0x20)
				drains(t, d, 4, sectorOf(filled(2), 1)[:508])
				reads(t, d, 7, 88)
				at(t, d, c.from, n)
				outs(t, d, 6, uint32(flags+c.from>>24))
				drains(t, d, 4, sectorOf(filled(2), 1)[508:])
				reads(t, d, 3, uint32(c.to%256))
				reads(t, d, 4, uint32(c.to/256%256))
				reads(t, d, 5, uint32(c.to/65536%256))
				reads(t, d, 6, uint32(flags+c.to>>24))
				reads(t, d, 2, uint32(n-1))
				switch {
				case n == 1:
					ended(t, d, 0, 80, false)
				case c.to == 0:
					ended(t, d, 0, 88, true)
					drains(t, d, 4, sectorOf(filled(2), 0))
				default:
					ended(t, d, 16, 81, true)
				}
			}
		}
	}
}

// P14.3: registers that are changed in the middle of a read: the sector is the one that it began with, the next one is by the registers.
func TestReadChanged(t *testing.T) {
	d := made(t, filled(9))
	at(t, d, 1, 1)
	outs(t, d, 7, 0x20)
	drains(t, d, 2, sectorOf(filled(9), 1)[:2])
	outs(t, d, 2, 2, 3, 6)
	drains(t, d, 2, sectorOf(filled(9), 1)[2:])
	placeIs(t, d, 7, 1)
	drains(t, d, 2, sectorOf(filled(9), 7))
	placeIs(t, d, 8, 0)
	reads(t, d, 8, 80)

	at(t, d, 1, 5)
	outs(t, d, 7, 0x20)
	outs(t, d, 2, 1, 6, 0)
	drains(t, d, 2, sectorOf(filled(9), 1))
	ended(t, d, 0, 80, true)
	reads(t, d, 6, 0)
}

// P14.3: registers that are changed in the middle of a write: the sector that is written is the one at the place then, also without the head's bit 6.
func TestWriteChanged(t *testing.T) {
	d := made(t, filled(9))
	at(t, d, 1, 1)
	outs(t, d, 7, 0x30)
	fill(t, d, 4, row(1)[:508])
	outs(t, d, 2, 3, 3, 5)
	fill(t, d, 4, row(1)[508:])
	tells(t, d, 5)
	placeIs(t, d, 6, 2)
	outs(t, d, 6, 0, 2, 1)
	fill(t, d, 4, row(2))
	tells(t, d, 6)
	ended(t, d, 0, 80, true)
	diskIs(t, d, slices.Concat(filled(9)[:5*512], row(1), row(2), filled(9)[7*512:]))

	for _, away := range [][]uint32{{3, 9}, {3, 255}, {4, 1}, {5, 1}, {6, 0x41}, {6, 0x48}, {6, 1}} {
		d := made(t, filled(9))
		at(t, d, 1, 2)
		outs(t, d, 7, 0x30)
		fill(t, d, 4, row(1)[:508])
		outs(t, d, away...)
		var before, after [5]uint32
		for n := range before {
			before[n], _ = d.In(n+2, 1)
		}
		reads(t, d, 8, 88)
		fill(t, d, 4, row(1)[508:])
		for n := range after {
			after[n], _ = d.In(n+2, 1)
		}
		if before != after {
			t.Errorf("%x: registers %x, were %x", away, after, before)
		}
		ended(t, d, 16, 81, true)
		tells(t, d)
		diskIs(t, d, filled(9))
		// What was brought is gone with the error.
		outs(t, d, 3, 1, 4, 0, 5, 0, 6, 0x40)
		fill(t, d, 4, row(1))
		tells(t, d)
		diskIs(t, d, filled(9))
	}
}

// P14.3: the buffer that is read is the sector as it was when it was turned to, and each write begins anew.
func TestBufferAnew(t *testing.T) {
	d := made(t, filled(2))
	at(t, d, 0, 1)
	outs(t, d, 7, 0x30)
	fill(t, d, 4, row(9)[:500])
	outs(t, d, 7, 0x30)
	fill(t, d, 4, row(1))
	diskIs(t, d, slices.Concat(row(1), filled(2)[512:]))

	at(t, d, 0, 1)
	outs(t, d, 7, 0x20)
	drains(t, d, 4, row(1)[:100])
	outs(t, d, 7, 0x20)
	drains(t, d, 4, row(1))
}

// P14.4: the mark is taken away by 7 alone, of all that can be read or told, and by no data.
func TestMark(t *testing.T) {
	d := made(t, filled(2))
	at(t, d, 0, 1)
	outs(t, d, 7, 0x20)
	for reg, want := range []uint32{uint32(filled(1)[0]), 0, 1, 0, 0, 0, 0x40} {
		reads(t, d, reg, want)
		lineIs(t, d, true)
	}
	reads(t, d, 8, 88)
	outs(t, d, 1, 0, 2, 1, 3, 0, 4, 0, 5, 0, 6, 0x40, 8, 0)
	d.Disk()
	d.Written()
	d.In(-1, 1)
	d.In(0, 3)
	lineIs(t, d, true)
	drains(t, d, 1, filled(1)[1:512])
	lineIs(t, d, true)
	drains(t, d, 1, []byte{255})
	lineIs(t, d, true)
	reads(t, d, 7, 80)
	lineIs(t, d, false)
	outs(t, d, 8, 2, 8, 0)
	lineIs(t, d, false)
}

// P14.4: error, mark and bit 0 of the status behind each of the errors, when it is fresh, and when a command follows that ends well.
func TestErrors(t *testing.T) {
	for _, c := range []struct {
		err   uint32
		pairs []uint32
	}{
		{4, []uint32{7, 0x20}}, {4, []uint32{7, 0x31}}, {4, []uint32{7, 0}}, {4, []uint32{7, 0xED}}, {4, []uint32{6, 0x40, 7, 0x22}},
		{4, []uint32{6, 0, 3, 200, 7, 0x20}}, {16, []uint32{6, 0x40, 3, 2, 7, 0x20}}, {16, []uint32{6, 0x40, 3, 2, 7, 0x30}},
		{16, []uint32{6, 0x4F, 7, 0x21}}, {16, []uint32{6, 0x40, 4, 1, 7, 0x31}},
	} {
		d := made(t, filled(2))
		ended(t, d, 1, 80, false)
		outs(t, d, c.pairs...)
		ended(t, d, c.err, 81, true)
		outs(t, d, 7, 0x91)
		ended(t, d, 0, 80, true)
		outs(t, d, c.pairs...)
		ended(t, d, c.err, 81, true)
		outs(t, d, 8, 4)
		ended(t, d, 1, 80, false)
		tells(t, d)
		diskIs(t, d, filled(2))
	}
}

// P14.5: Written with nothing, with some in the order in which they were written, the same place twice, and asked twice.
func TestWritten(t *testing.T) {
	d := made(t, filled(8))
	tells(t, d)
	tells(t, d)
	for n, place := range []int{5, 2, 7, 2, 2, 0, 5} {
		at(t, d, place, 1)
		outs(t, d, 7, 0x30)
		fill(t, d, 4, row(n))
	}
	tells(t, d, 5, 2, 7, 2, 2, 0, 5)
	tells(t, d)
	at(t, d, 6, 1)
	outs(t, d, 7, 0x20)
	drain(t, d, 4, 512)
	tells(t, d)
	at(t, d, 6, 2)
	outs(t, d, 7, 0x30)
	fill(t, d, 4, row(1))
	tells(t, d, 6)
	fill(t, d, 4, row(1))
	tells(t, d, 7)
	// What was there already is written all the same.
	at(t, d, 7, 1)
	outs(t, d, 7, 0x30)
	fill(t, d, 4, row(1))
	tells(t, d, 7)
}

// R4: what Written told is the caller's, spare room too.
func TestWrittenIsNew(t *testing.T) {
	for n := range 12 {
		d := made(t, filled(16))
		for place := range n {
			at(t, d, place, 1)
			outs(t, d, 7, 0x30)
			fill(t, d, 4, row(place))
		}
		told := d.Written()
		told = told[:cap(told)]
		for i := range told {
			told[i] = 99
		}
		at(t, d, 13, 2)
		outs(t, d, 7, 0x30)
		fill(t, d, 4, slices.Concat(row(1), row(2)))
		for i := range told {
			if told[i] != 99 {
				t.Fatalf("%d places: what was told changed at %d", n, i)
			}
			told[i] = 98
		}
		tells(t, d, 13, 14)
	}
}

// P14.6: what is written to a sector is read from it, and other sectors stay, whatever is written when.
func TestWrittenIsRead(t *testing.T) {
	draw := numbers(3)
	want := filled(64)
	d := made(t, want)
	for range 600 {
		place, n := draw(64), 1+draw(3)
		n = min(n, 64-place)
		at(t, d, place, n)
		outs(t, d, 7, []uint32{0x30, 0x31}[draw(2)])
		for i := range n {
			content := row(draw(256))
			content[draw(512)] = byte(draw(256))
			fill(t, d, 1<<draw(3), content)
			copy(sectorOf(want, place+i), content)
		}
		other := draw(64)
		at(t, d, other, 1)
		outs(t, d, 7, []uint32{0x20, 0x21}[draw(2)])
		drains(t, d, 1<<draw(3), sectorOf(want, other))
		at(t, d, place, n)
		outs(t, d, 7, 0x20)
		drains(t, d, 1<<draw(3), want[place*512:(place+n)*512])
	}
	diskIs(t, d, want)
}

// R1: a nil disk.
func TestNil(t *testing.T) {
	var d *Ide
	for _, reg := range []int{-1, 0, 1, 2, 3, 4, 5, 6, 7, 8, 9, math.MinInt, math.MaxInt} {
		for _, size := range []int{0, 1, 2, 3, 4, 5, -1} {
			for _, v := range []uint32{0, 4, 0x20, 0x30, math.MaxUint32} {
				if err := d.Out(reg, size, v); err != api.ErrArg {
					t.Errorf("Out(%d, %d, %x): %d", reg, size, v, err)
				}
			}
			if v, err := d.In(reg, size); v != 0 || err != api.ErrArg {
				t.Errorf("In(%d, %d): %d, %d", reg, size, v, err)
			}
		}
	}
	lineIs(t, d, false)
	tells(t, d)
	diskIs(t, d, nil)
}

// R1: one that New did not make has no sectors, and answers all the same.
func TestHandMade(t *testing.T) {
	for seed := range uint64(30) {
		d, m := &Ide{}, newModel(nil)
		m.err, m.count, m.place = 0, 0, 0
		b := &bench{t, d, m}
		draw := numbers(seed)
		for range 60 {
			b.doSomething(draw)
		}
		b.end()
	}
}

// numbers draws whole numbers below another one, always the same ones of a seed.
func numbers(seed uint64) func(below int) int {
	return func(below int) int {
		seed = seed*6364136223846793005 + 1442695040888963407
		return int(seed>>33) % below
	}
}

// doSomething says one thing to both, mostly such that something is read or written.
func (b *bench) doSomething(draw func(int) int) {
	b.t.Helper()
	switch draw(16) {
	case 0:
		b.out(draw(11)-1, draw(6), uint32(draw(1<<31)))
	case 1:
		b.in(draw(11)-1, draw(6))
	case 2:
		b.out(2, 1, uint32(draw(5)))
	case 3, 4:
		b.out(3, 1, uint32(draw(len(b.m.sectors)+2)))
	case 5:
		b.out(4+draw(2), 1, uint32(draw(8)/7))
	case 6:
		b.out(6, 1, uint32([]int{0, 0x40, 0x40, 0x40, 0xE0, 0x50, 0x41, 0xE0}[draw(8)]))
	case 7, 8:
		b.out(7, 1, uint32([]int{0x20, 0x21, 0x30, 0x31, 0x20, 0x30, 0xEC, 0xE7, 0x91, 0xC4}[draw(10)]))
	case 9:
		b.out(8, 1, uint32([]int{0, 0, 2, 0, 2, 0, 4, 6}[draw(8)]))
	case 10:
		b.in(7+draw(2), draw(4))
	case 11, 12, 13:
		b.move(1<<draw(3), 1+draw(300), draw)
	case 14:
		b.written()
	case 15:
		b.disk()
	}
}

// move reads or writes data many times, mostly as it goes on.
func (b *bench) move(size, times int, draw func(int) int) {
	b.t.Helper()
	write := b.m.doing == "write" != (draw(10) == 0)
	for range times {
		if write {
			b.out(0, size, uint32(draw(1<<31)))
		} else {
			b.in(0, size)
		}
	}
}

// P14.1 to P14.6: calls of all kinds, in any order.
func TestDrawnCalls(t *testing.T) {
	for seed := range uint64(3000) {
		draw := numbers(seed)
		b := newBench(t, filled(draw(6)))
		b.out(2, 1, uint32(draw(4)))
		b.out(6, 1, 0x40)
		for range 20 + draw(80) {
			b.doSomething(draw)
		}
		b.end()
	}
}

// R5: the same calls are answered the same again.
func TestSameAgain(t *testing.T) {
	var runs [2][]uint32
	var disks [2][]byte
	for n := range runs {
		d := made(t, filled(4))
		draw := numbers(77)
		for range 5000 {
			d.Out([]int{2, 3, 6, 7}[draw(4)], 1, uint32([]int{0, 1, 2, 0x40, 0x40, 0x20, 0x30}[draw(7)]))
			for range draw(200) {
				d.Out(0, 4, uint32(draw(1<<31)))
				v, _ := d.In(0, 4)
				runs[n] = append(runs[n], v)
			}
			v, _ := d.In(draw(9), 1)
			runs[n] = append(runs[n], v)
			if draw(50) == 0 {
				for _, place := range d.Written() {
					runs[n] = append(runs[n], uint32(place))
				}
			}
		}
		disks[n] = d.Disk()
	}
	if !slices.Equal(runs[0], runs[1]) || !bytes.Equal(disks[0], disks[1]) {
		t.Error("answered otherwise the second time")
	}
}
