package bus

import (
	"bytes"
	"math"
	"slices"
	"strconv"
	"testing"

	"drawloom/api"
	"drawloom/ram"
)

// The chapter's examples, one behind the other on one bus.
func TestExamples(t *testing.T) {
	b := made(t, newMemory(t), make([]byte, 512))
	out(t, b, 0x3F8, 1, 65)
	sends(t, b, "A")
	reads(t, b, 0x3FD, 1, 96)
	reads(t, b, 0x1234, 2, 65535)
	outs(t, b, 0x20, 0x11, 0x21, 8, 0x21, 4, 0x21, 1)
	pends(t, b, false)
	if v := b.Ack(); v != 15 {
		t.Errorf("Ack of nothing: %d", v)
	}
	b.Tick(65536)
	pends(t, b, true)
	if v := b.Ack(); v != 8 {
		t.Errorf("Ack behind a length: %d", v)
	}
}

// P15.1: no memory comes ahead of a disk that may not be; the others are ide's error, and leave the gate as it was (R3).
func TestNewRefuses(t *testing.T) {
	for _, n := range []int{0, 1, 511, 512, 513, 64*512 - 1, 64 * 512, 64*512 + 1, 65 * 512} {
		if b, err := New(nil, make([]byte, n)); b != nil || err != api.ErrArg {
			t.Errorf("New of no memory and %d bytes: %v, %d", n, b != nil, err)
		}
	}
	for _, n := range []int{1, 256, 511, 513, 1025, 64*512 - 1, 64*512 + 1, 65 * 512, 1 << 20} {
		for _, open := range []bool{true, false} {
			m := newMemory(t)
			m.Gate(open)
			if b, err := New(m, make([]byte, n)); b != nil || err != api.ErrDisk {
				t.Errorf("New with %d bytes: %v, %d", n, b != nil, err)
			}
			gateIs(t, m, open)
		}
	}
}

// P15.1: disks that may be; the time is 0, the gate is open also where it was closed.
func TestNewTakes(t *testing.T) {
	for sectors := range 65 {
		m := newMemory(t)
		m.Gate(sectors%2 == 0)
		b := made(t, m, filled(sectors))
		gateIs(t, m, true)
		reads(t, b, 0x92, 1, 2)
		timeIs(t, b, 0)
		diskIs(t, b, filled(sectors))
		sends(t, b, "")
		writes(t, b)
	}
	diskIs(t, made(t, newMemory(t), nil), nil)
}

// P15.1: what is read from each device that is new, by hand. The pit's line was told: it is up.
func TestNewDevices(t *testing.T) {
	rows := []struct{ port, want uint32 }{
		{0x20, 1}, {0x21, 0}, {0xA0, 0}, {0xA1, 0},
		{0x40, 0}, {0x41, 0}, {0x42, 0}, {0x43, 255}, {0x40, 0}, {0x41, 0}, {0x42, 0},
		{0x3F8, 0}, {0x3F9, 0}, {0x3FA, 1}, {0x3FB, 0}, {0x3FC, 0}, {0x3FD, 96}, {0x3FE, 176}, {0x3FF, 0},
		{0x1F0, 255}, {0x1F1, 1}, {0x1F2, 1}, {0x1F3, 1}, {0x1F4, 0}, {0x1F5, 0}, {0x1F6, 0}, {0x1F7, 80}, {0x3F6, 80},
		{0x92, 2},
	}
	together := made(t, newMemory(t), filled(2))
	for _, row := range rows {
		reads(t, together, uint16(row.port), 1, row.want)
		reads(t, made(t, newMemory(t), filled(2)), uint16(row.port), 1, row.want)
	}
	b := made(t, newMemory(t), filled(2))
	pends(t, b, true)
	if v := b.Ack(); v != 0 {
		t.Errorf("Ack: %d", v)
	}
	pends(t, b, false)
	newBench(t, filled(2)).end()
}

// R4: the disk that was handed in is neither changed nor kept, its spare room included.
func TestNewKeepsNothing(t *testing.T) {
	room := filled(3)
	b := made(t, newMemory(t), room[:2*512])
	for i := range room {
		room[i] = 99
	}
	diskIs(t, b, filled(2))
	outs(t, b, 0x1F6, 0x40, 0x1F3, 1, 0x1F7, 0x30)
	for range 128 {
		out(t, b, 0x1F0, 4, 0x77777777)
	}
	writes(t, b, 1)
	if bytes.Count(room, []byte{99}) != len(room) {
		t.Error("what was handed in is changed")
	}
}

// P15.2: each port, each byte, behind each state, against devices of their own.
func TestEachPort(t *testing.T) {
	inEachState(t, func(t *testing.T, n int, get func(b *bench)) {
		step := 23
		if n == 0 {
			step = 1
		}
		for _, port := range devicePorts() {
			for v := 0; v < 256; v += step {
				b := newBench(t, filled(2))
				get(b)
				b.out(port, 1, uint32(v)|0xA5C3F000)
				b.in(port, 1)
				b.end()
			}
		}
	})
}

// P15.2: whose each port is, by hand.
func TestPicPorts(t *testing.T) {
	b := made(t, newMemory(t), nil)
	outs(t, b, 0x21, 0xAB, 0xA1, 0xCD)
	reads(t, b, 0x21, 1, 0xAB)
	reads(t, b, 0xA1, 1, 0xCD)
	reads(t, b, 0x20, 1, 1)
	reads(t, b, 0xA0, 1, 0)
	outs(t, b, 0x21, 0)
	if v := b.Ack(); v != 0 {
		t.Errorf("Ack: %d", v)
	}
	reads(t, b, 0x20, 1, 0)
	outs(t, b, 0x20, 0x0B)
	reads(t, b, 0x20, 1, 1)
	reads(t, b, 0xA0, 1, 0)
	outs(t, b, 0xA0, 0x20)
	reads(t, b, 0x20, 1, 1)
	outs(t, b, 0x20, 0x20)
	reads(t, b, 0x20, 1, 0)
}

// P15.2: the pit's ports are asked at the bus' time.
func TestTimerPorts(t *testing.T) {
	b := made(t, newMemory(t), nil)
	b.Tick(1000)
	outs(t, b, 0x43, 0x34, 0x43, 0x70, 0x43, 0xB4)
	for n := range uint32(3) {
		outs(t, b, 0x40+n, 10+n)
		b.Tick(2)
		outs(t, b, 0x40+n, 1)
	}
	b.Tick(3)
	for n, want := range []uint32{266 - 7, 267 - 5, 268 - 3} {
		reads(t, b, 0x40+uint16(n), 1, want%256, want/256)
	}
	reads(t, b, 0x43, 1, 255)
	outs(t, b, 0x43, 0)
	b.Tick(9)
	reads(t, b, 0x40, 1, 3, 1)
	reads(t, b, 0x40, 1, (266-16)%256, 0)
}

func TestSerialPorts(t *testing.T) {
	b := made(t, newMemory(t), nil)
	outs(t, b, 0x3F8, 'o', 0x3F8, 'k', 0x3F9, 0xF5, 0x3FA, 1, 0x3FB, 3, 0x3FC, 0xFF, 0x3FD, 9, 0x3FE, 9, 0x3FF, 0x5A)
	sends(t, b, "ok")
	b.Push(7)
	for n, want := range []uint32{7, 5, 193, 3, 31, 96, 176, 0x5A} {
		reads(t, b, 0x3F8+uint16(n), 1, want)
	}
	outs(t, b, 0x3FB, 0x80, 0x3F8, 12, 0x3F9, 34)
	reads(t, b, 0x3F8, 1, 12)
	reads(t, b, 0x3F9, 1, 34)
	sends(t, b, "")
}

func TestDiskPorts(t *testing.T) {
	b := made(t, newMemory(t), filled(3))
	outs(t, b, 0x1F1, 99, 0x1F2, 1, 0x1F3, 2, 0x1F4, 0, 0x1F5, 0, 0x1F6, 0xE0, 0x1F7, 0x20)
	for n, want := range []uint32{0, 1, 2, 0, 0, 0xE0, 88} {
		reads(t, b, 0x1F1+uint16(n), 1, want)
	}
	for _, want := range filled(3)[1024:] {
		reads(t, b, 0x1F0, 1, uint32(want))
	}
	reads(t, b, 0x3F6, 1, 80)
	outs(t, b, 0x1F4, 4, 0x1F5, 5, 0x1F6, 0x46)
	for n, want := range []uint32{0, 0, 3, 4, 5, 0x46, 80} {
		reads(t, b, 0x1F1+uint16(n), 1, want)
	}
}

// P15.2: 3F6 is the ide's register 8; the ports beside it are nobody's.
func TestDiskControl(t *testing.T) {
	for _, port := range []uint16{0x3F5, 0x3F6, 0x3F7} {
		mine := port == 0x3F6
		b := ready(t, filled(1))
		outs(t, b, uint32(port), 2, 0x1F7, 0xE7)
		pends(t, b, !mine)
		reads(t, b, 0xA0, 1, map[bool]uint32{true: 0, false: 0x40}[mine])
		want := uint32(255)
		if mine {
			want = 80
		}
		reads(t, b, port, 1, want, want)
		outs(t, b, 0x3F6, 0)
		pends(t, b, true)
		acks(t, b, 0x2E)
		outs(t, b, 0x1F2, 9, uint32(port), 4)
		reads(t, b, 0x1F2, 1, map[bool]uint32{true: 1, false: 9}[mine])
	}
	b := ready(t, filled(1))
	outs(t, b, 0x1F7, 0xE7)
	reads(t, b, 0x3F6, 1, 80, 80)
	reads(t, b, 0xA0, 1, 0x40)
	reads(t, b, 0x1F7, 1, 80)
	reads(t, b, 0xA0, 1, 0)
}

// P15.2: the gate, by each byte that is written to 92, with a small memory and the greatest one.
func TestGate(t *testing.T) {
	for _, pages := range []int{1, 256} {
		m, err := ram.New(pages)
		if err != api.OK {
			t.Fatal(err)
		}
		m.Load(0, []byte{1, 2, 3, 4})
		b := made(t, m, nil)
		gateIs(t, m, true)
		reads(t, b, 0x92, 1, 2, 2)
		for _, more := range []uint32{0, 0xFFFFFF00, 0x200} {
			for v := range uint32(256) {
				out(t, b, 0x92, 1, v|more)
				open := v/2%2 == 1
				gateIs(t, m, open)
				reads(t, b, 0x92, 1, v/2%2*2, v/2%2*2)
				out(t, b, 0x92, 1, 2-v/2%2*2)
				gateIs(t, m, !open)
			}
		}
	}
}

// P15.2: 92 tells what was written there last, whoever turned the memory's gate meanwhile, and turns it back.
func TestGateOfOthers(t *testing.T) {
	for _, open := range []bool{true, false} {
		m := newMemory(t)
		b := made(t, m, nil)
		m.Gate(open)
		reads(t, b, 0x92, 1, 2)
		gateIs(t, m, open)
		for _, v := range []uint32{0, 2, 2, 0, 0} {
			out(t, b, 0x92, 1, v)
			gateIs(t, m, v == 2)
			m.Gate(open)
			reads(t, b, 0x92, 1, v, v)
			b.Tick(3)
			b.Push(1)
			out(t, b, 0x93, 1, 2-v)
			gateIs(t, m, open)
		}
	}
}

// P15.2: a memory's own gate is not opened again by anything but 92.
func TestGateStays(t *testing.T) {
	m := newMemory(t)
	b := made(t, m, filled(1))
	out(t, b, 0x92, 1, 0)
	for _, port := range devicePorts() {
		if port != 0x92 {
			out(t, b, port, 1, 255)
			if _, err := b.In(port, 1); err != api.OK {
				t.Errorf("In(%x): %d", port, err)
			}
		}
	}
	gateIs(t, m, false)
	reads(t, b, 0x92, 1, 0)
}

// P15.2: all ports that are nobody's: nothing is done, 255 is read.
func TestOtherPorts(t *testing.T) {
	for _, port := range []uint16{0, 0x1F, 0x22, 0x44, 0x91, 0x93, 0x1EF, 0x1F8, 0x3F7, 0x400, 0xFFFF} {
		b := made(t, newMemory(t), filled(1))
		reads(t, b, port, 1, 255)
		out(t, b, port, 1, 0x5A)
		reads(t, b, port, 1, 255, 255)
	}
	somebodys := devicePorts()
	for n, get := range states() {
		if n > 6 {
			break
		}
		b := newBench(t, filled(2))
		get(b)
		for port := range 65536 {
			if slices.Contains(somebodys, uint16(port)) {
				continue
			}
			out(t, b.b, uint16(port), 1, uint32(port*7+n))
			reads(t, b.b, uint16(port), 1, 255)
		}
		b.end()
	}
}

// P15.3: sizes that are none, at all kinds of ports; nothing has changed then (R3).
func TestSizes(t *testing.T) {
	for _, get := range states() {
		b := newBench(t, filled(2))
		get(b)
		for _, size := range []int{0, 3, 5, 8, -1, -2, -4, 6, 7, 16, 1<<32 + 1, 1<<32 + 4, math.MaxInt, math.MinInt} {
			for _, port := range nearPorts() {
				for _, v := range []uint32{0, 2, 0x11, 0x20202020, math.MaxUint32} {
					if err := b.b.Out(port, size, v); err != api.ErrSize {
						t.Errorf("Out(%x, %d, %x): %d", port, size, v, err)
					}
				}
				if v, err := b.b.In(port, size); v != 0 || err != api.ErrSize {
					t.Errorf("In(%x, %d): %x, %d", port, size, v, err)
				}
			}
		}
		b.end()
	}
}

// P15.3: each size at and around all ports that there are, over a device's first and last one, behind each state.
func TestWide(t *testing.T) {
	inEachState(t, func(t *testing.T, _ int, get func(b *bench)) {
		for _, port := range nearPorts() {
			for _, size := range []int{1, 2, 4} {
				b := newBench(t, filled(2))
				get(b)
				b.in(port, size)
				b.in(port, size)
				b.end()
				for _, v := range []uint32{0x20160305, 0x40302011, 0xFFFEFDFC} {
					b = newBench(t, filled(2))
					get(b)
					b.out(port, size, v)
					b.end()
				}
			}
		}
	})
}

// P15.3: the ide's data, of each size, by hand.
func TestDataOfSizes(t *testing.T) {
	disk := filled(2)
	b := made(t, newMemory(t), disk)
	outs(t, b, 0x1F6, 0x40, 0x1F3, 0, 0x1F2, 2, 0x1F7, 0x20)
	word := func(n, size int) uint32 {
		v := uint32(0)
		for i := range size {
			v |= uint32(disk[n+i]) << (8 * i)
		}
		return v
	}
	reads(t, b, 0x1F0, 4, word(0, 4), word(4, 4))
	reads(t, b, 0x1F0, 2, word(8, 2), word(10, 2))
	reads(t, b, 0x1F0, 1, word(12, 1), word(13, 1))
	for n := 14; n < 510; n += 4 {
		reads(t, b, 0x1F0, 4, word(n, 4))
	}
	reads(t, b, 0x1F0, 4, word(510, 4))

	outs(t, b, 0x1F3, 0, 0x1F2, 1, 0x1F7, 0x30)
	out(t, b, 0x1F0, 4, 0x04030201)
	out(t, b, 0x1F0, 2, 0xFFFF0605)
	out(t, b, 0x1F0, 1, 0xFFFFFF07)
	out(t, b, 0x1F0, 1, 8)
	for range 126 {
		out(t, b, 0x1F0, 4, 0)
	}
	diskIs(t, b, slices.Concat([]byte{1, 2, 3, 4, 5, 6, 7, 8}, make([]byte, 504), disk[512:]))
}

// P15.3: 1F0 is as of size 1 where another port's bytes reach it: by hand, read and written.
func TestDataBehindAnother(t *testing.T) {
	disk := filled(2)
	for _, row := range []struct {
		port uint16
		size int
		want func(v uint32) uint32
	}{
		{0x1EF, 2, func(v uint32) uint32 { return v<<8 | 255 }},
		{0x1EF, 4, func(v uint32) uint32 { return 2<<24 | 0<<16 | v<<8 | 255 }},
		{0x1EE, 4, func(v uint32) uint32 { return 0<<24 | v<<16 | 0xFFFF }},
		{0x1ED, 4, func(v uint32) uint32 { return v<<24 | 0xFFFFFF }},
	} {
		b := made(t, newMemory(t), disk)
		outs(t, b, 0x1F6, 0x40, 0x1F3, 1, 0x1F2, 2, 0x1F7, 0x20)
		for n := range 5 {
			reads(t, b, row.port, row.size, row.want(uint32(disk[512+n])))
		}
		reads(t, b, 0x1F0, 1, uint32(disk[512+5]))
		reads(t, b, 0x1EF, 1, 255)
		reads(t, b, 0x1F0, 1, uint32(disk[512+6]))
	}
	b := made(t, newMemory(t), disk)
	outs(t, b, 0x1F6, 0x40, 0x1F3, 0, 0x1F2, 1, 0x1F7, 0x30)
	for n := range uint32(510) {
		out(t, b, 0x1EF, 2, 0xFFFF00EE|n%256<<8)
	}
	writes(t, b)
	out(t, b, 0x1ED, 4, 0x77EEEEEE)
	writes(t, b)
	out(t, b, 0x1EE, 4, 0xEE88EEEE)
	writes(t, b, 0)
	if list := b.Disk()[:512]; list[0] != 0 || list[509] != 253 || list[510] != 0x77 || list[511] != 0x88 {
		t.Errorf("Disk: %x", list)
	}
}

// P15.3: what is read with sizes 2 and 4, by hand.
func TestReadWide(t *testing.T) {
	rows := []struct {
		port uint16
		size int
		want uint32
	}{
		{0x20, 2, 0x5601}, {0x1F, 2, 0x01FF}, {0x1F, 4, 0xFF5601FF}, {0x1E, 4, 0x5601FFFF}, {0x21, 2, 0xFF56}, {0x1D, 4, 0x01FFFFFF}, {0x22, 4, 0xFFFFFFFF},
		{0xA0, 2, 0x7840}, {0xA0, 4, 0xFFFF7840}, {0x9F, 4, 0xFF7840FF}, {0xA1, 4, 0xFFFFFF78},
		{0x40, 4, 0xFF030201}, {0x3F, 2, 0x01FF}, {0x42, 2, 0xFF03}, {0x42, 4, 0xFFFFFF03}, {0x43, 4, 0xFFFFFFFF}, {0x3D, 4, 0x01FFFFFF},
		{0x92, 2, 0xFF02}, {0x91, 2, 0x02FF}, {0x8F, 4, 0x02FFFFFF}, {0x90, 4, 0xFF02FFFF}, {0x93, 4, 0xFFFFFFFF},
		{0x1F1, 2, 0x0900}, {0x1F1, 4, 0x21010900}, {0x1F3, 4, 0x40222101}, {0x1F4, 4, 0x50402221}, {0x1F6, 2, 0x5040}, {0x1F7, 2, 0xFF50}, {0x1F6, 4, 0xFFFF5040}, {0x1F8, 4, 0xFFFFFFFF},
		{0x3F5, 2, 0x50FF}, {0x3F5, 4, 0x41FF50FF}, {0x3F6, 2, 0xFF50}, {0x3F6, 4, 0x0041FF50}, {0x3F7, 2, 0x41FF}, {0x3F7, 4, 0x010041FF}, {0x3F4, 4, 0xFF50FFFF}, {0x3F3, 4, 0x50FFFFFF},
		{0x3F8, 4, 0x1B010041}, {0x3F8, 2, 0x0041}, {0x3FC, 4, 0x99B06103}, {0x3FE, 2, 0x99B0}, {0x3FF, 2, 0xFF99}, {0x3FF, 4, 0xFFFFFF99}, {0x400, 4, 0xFFFFFFFF},
		{0, 4, 0xFFFFFFFF}, {0xFFFF, 2, 0xFFFF}, {0xFFFF, 4, 0xFFFFFFFF}, {0xFFFD, 4, 0xFFFFFFFF}, {0xFFFE, 2, 0xFFFF},
	}
	for _, row := range rows {
		b := made(t, newMemory(t), filled(1))
		outs(t, b, 0x21, 0x56, 0xA1, 0x78)
		for n := range uint32(3) {
			outs(t, b, 0x43, n<<6|0x18, 0x40+n, n+1)
		}
		outs(t, b, 0x1F2, 9, 0x1F3, 1, 0x1F4, 0x21, 0x1F5, 0x22, 0x1F6, 0x40, 0x1F7, 0x91)
		outs(t, b, 0x3FB, 0x1B, 0x3FC, 3, 0x3FF, 0x99)
		b.Push(0x41)
		reads(t, b, row.port, row.size, row.want)
	}
}

// P15.3: what is written with sizes 2 and 4, by hand, the lowest byte first.
func TestWriteWide(t *testing.T) {
	m := newMemory(t)
	b := made(t, m, filled(2))
	out(t, b, 0x20, 2, 0xFFFF3011)
	out(t, b, 0x1F, 4, 0xEE04EEEE&^0xFF00)
	out(t, b, 0x21, 2, 0xEE01)
	if v := b.Ack(); v != 0x37 {
		t.Errorf("Ack: %x", v)
	}
	out(t, b, 0x9F, 4, 0xEE5520EE)
	reads(t, b, 0xA1, 1, 0x55)
	out(t, b, 0x21, 4, 0xEEEEEE66)
	reads(t, b, 0x21, 1, 0x66)

	outs(t, b, 0x43, 0x10, 0x43, 0x58, 0x43, 0x98)
	out(t, b, 0x3F, 4, 0x030201EE)
	reads(t, b, 0x40, 4, 0xFF030201)
	out(t, b, 0x42, 4, 0xEEEE1009)
	reads(t, b, 0x41, 2, 0x0902)

	out(t, b, 0x91, 2, 0x00FF)
	gateIs(t, m, false)
	out(t, b, 0x8F, 4, 0x02000000)
	gateIs(t, m, true)
	out(t, b, 0x92, 4, 0xFFFFFFFD)
	gateIs(t, m, false)
	out(t, b, 0x93, 4, 0xFFFFFFFF)
	gateIs(t, m, false)

	out(t, b, 0x1F2, 4, 0x00000101)
	out(t, b, 0x1F6, 4, 0xEEEE2040)
	reads(t, b, 0x1F0, 1, uint32(filled(2)[512]))
	out(t, b, 0x1F7, 2, 0xEE00)
	reads(t, b, 0x1F1, 1, 4)

	out(t, b, 0x3F5, 4, 0x41EE02EE)
	sends(t, b, "A")
	out(t, b, 0x3F6, 4, 0x0342EE00)
	sends(t, b, "B")
	reads(t, b, 0x3F9, 1, 3)
	out(t, b, 0x3F8, 4, 0x1B010543)
	sends(t, b, "C")
	reads(t, b, 0x3FB, 1, 0x1B)
	reads(t, b, 0x3F9, 1, 5)
	out(t, b, 0x3FF, 4, 0xEEEEEE77)
	reads(t, b, 0x3FF, 1, 0x77)
	out(t, b, 0x3FC, 4, 0x88EEEE1F)
	reads(t, b, 0x3FC, 1, 0x1F)
	reads(t, b, 0x3FF, 1, 0x88)
	out(t, b, 0xFFFF, 4, 0xFFFFFFFF)
	out(t, b, 0xFFFE, 2, 0xFFFFFFFF)
	sends(t, b, "")
}

// P15.3: the lines are told once, behind all bytes of a call: the pit's line goes down and up within one, and the pic does not see it.
func TestLinesOnce(t *testing.T) {
	for _, apart := range []bool{false, true} {
		b := ready(t, nil)
		outs(t, b, 0x43, 0x10, 0x40, 3)
		b.Tick(3)
		acks(t, b, 0x20)
		if apart {
			outs(t, b, 0x40, 5, 0x41, 0, 0x42, 0, 0x43, 0x16)
		} else {
			out(t, b, 0x40, 4, 0x16000005)
		}
		pends(t, b, apart)
	}
}

// P15.3: the line goes up and down within one call: what it asked is not told.
func TestLinesOnceUp(t *testing.T) {
	for _, apart := range []bool{false, true} {
		b := ready(t, nil)
		outs(t, b, 0x43, 0x10, 0x40, 9)
		pends(t, b, false)
		if apart {
			outs(t, b, 0x42, 0, 0x43, 0x16)
			pends(t, b, true)
			outs(t, b, 0x43, 0x10)
		} else {
			out(t, b, 0x42, 2, 0x1000)
		}
		pends(t, b, false)
		reads(t, b, 0x20, 1, 0)
	}
}

// P15.3: the lines are told behind In, too: the disk's mark that was read asks anew when it is set again.
func TestLinesBehindIn(t *testing.T) {
	for _, read := range []bool{true, false} {
		b := ready(t, nil)
		outs(t, b, 0x1F7, 0xE7)
		acks(t, b, 0x2E)
		if read {
			reads(t, b, 0x1F7, 1, 80)
		}
		outs(t, b, 0x1F7, 0xE7)
		pends(t, b, read)
	}
	b := ready(t, nil)
	outs(t, b, 0x3F9, 1)
	b.Push(5)
	reads(t, b, 0x20, 1, 0x10)
	reads(t, b, 0x3F8, 1, 5)
	pends(t, b, false)
	reads(t, b, 0x20, 1, 0)
	b.Push(6)
	acks(t, b, 0x24)
}

// P15.3, P15.4: which calls tell the lines, and which do not: the devices are used beside the bus, so that there is something to tell. (Line 4 of the uart, 14 of the ide, 0 of the pit.)
func TestWhoTells(t *testing.T) {
	rows := []struct {
		name  string
		tells bool
		call  func(b *Bus)
	}{
		{"Out", true, func(b *Bus) { b.Out(0x3FF, 1, 0) }},
		{"Out of 4", true, func(b *Bus) { b.Out(0x1F2, 4, 0) }},
		{"Out of nobody's port", true, func(b *Bus) { b.Out(0x80, 1, 0) }},
		{"Out of data", true, func(b *Bus) { b.Out(0x1F0, 4, 0) }},
		{"Out of the gate", true, func(b *Bus) { b.Out(0x92, 1, 2) }},
		{"In", true, func(b *Bus) { b.In(0x3FF, 1) }},
		{"In of 4", true, func(b *Bus) { b.In(0x1F2, 4) }},
		{"In of nobody's port", true, func(b *Bus) { b.In(0x80, 1) }},
		{"In of data", true, func(b *Bus) { b.In(0x1F0, 4) }},
		{"Tick", true, func(b *Bus) { b.Tick(1) }},
		{"Tick of many", true, func(b *Bus) { b.Tick(65536 * 3) }},
		{"Push", true, func(b *Bus) { b.Push(1) }},
		{"Ack", true, func(b *Bus) { b.Ack() }},
		{"Out that is refused", false, func(b *Bus) { b.Out(0x3FF, 3, 0) }},
		{"In that is refused", false, func(b *Bus) { b.In(0x3FF, 0) }},
		{"Tick of none", false, func(b *Bus) { b.Tick(0) }},
		{"Tick of fewer", false, func(b *Bus) { b.Tick(-1) }},
		{"Now", false, func(b *Bus) { b.Now() }},
		{"Pending", false, func(b *Bus) { b.Pending() }},
		{"Sent", false, func(b *Bus) { b.Sent() }},
		{"Written", false, func(b *Bus) { b.Written() }},
		{"Disk", false, func(b *Bus) { b.Disk() }},
	}
	lines := []struct {
		vector int
		up     func(b *Bus)
	}{
		{0x20, func(b *Bus) { b.Pit.Out(3, 0x18, b.Now()) }},
		{0x24, func(b *Bus) { b.Uart.Out(1, 1); b.Uart.Push(9) }},
		{0x2E, func(b *Bus) { b.Ide.Out(7, 1, 0xE7) }},
	}
	for _, row := range rows {
		for _, line := range lines {
			b := ready(t, filled(1))
			outs(t, b, 0x43, 0x10)
			pends(t, b, false)
			line.up(b)
			row.call(b)
			if is := b.Pending(); is != row.tells {
				t.Errorf("%s: Pending %v", row.name, is)
			}
			if row.tells {
				acks(t, b, line.vector)
			}
		}
	}
}

// P15.4: no ticks, one, and times.
func TestTick(t *testing.T) {
	b := ready(t, nil)
	for _, n := range []int{0, -1, -65536, math.MinInt} {
		b.Tick(n)
		timeIs(t, b, 0)
	}
	b.Tick(1)
	timeIs(t, b, 1)
	b.Tick(-1)
	timeIs(t, b, 1)
	for n := range 100 {
		b.Tick(n)
	}
	timeIs(t, b, 1+99*50)
	b.Tick(1 << 20)
	timeIs(t, b, 1+99*50+1<<20)
}

// P15.4: nothing but Tick lets time go by.
func TestTimeStays(t *testing.T) {
	b := ready(t, filled(1))
	b.Tick(77)
	for _, port := range nearPorts() {
		for _, size := range []int{1, 2, 4, 3} {
			b.Out(port, size, 0x12345678)
			b.In(port, size)
		}
	}
	b.Push(1)
	b.Ack()
	b.Pending()
	b.Sent()
	b.Written()
	b.Disk()
	timeIs(t, b, 77)
}

// P15.4: the timer's line by its modes, by hand: which ticks let it ask.
func TestTickAsks(t *testing.T) {
	for _, row := range []struct {
		mode, length uint32
		at           []int
	}{
		{0, 5, []int{5}},
		{0, 1, []int{1}},
		{2, 5, []int{5, 10, 15, 20, 25}},
		{2, 2, []int{2, 4, 6, 8, 10, 12, 14, 16, 18, 20, 22, 24}},
		{3, 5, []int{5, 10, 15, 20, 25}},
		{3, 4, []int{4, 8, 12, 16, 20, 24}},
		{3, 1, nil},
		{2, 1, nil},
		{1, 5, nil},
		{4, 5, nil},
		{5, 5, nil},
	} {
		b := ready(t, nil)
		b.Tick(1000)
		outs(t, b, 0x43, 0x10, 0x43, 0x10|row.mode<<1, 0x40, row.length)
		// What the command itself let ask is told ahead of the ticks.
		if b.Pending() {
			acks(t, b, 0x20)
		}
		var at []int
		for n := 1; n <= 25; n++ {
			b.Tick(1)
			if b.Pending() {
				at = append(at, n)
				acks(t, b, 0x20)
			}
		}
		if !slices.Equal(at, row.at) {
			t.Errorf("mode %d, length %d: asks at %d, want %d", row.mode, row.length, at, row.at)
		}
	}
}

// P15.4: a whole length at once: it asks, if the line was down within it and is up at its end.
func TestTickOfLengths(t *testing.T) {
	for _, row := range []struct {
		command, length uint32
		n               int
		want            bool
	}{
		{0x34, 10, 8, false}, {0x34, 10, 9, false}, {0x34, 10, 10, true}, {0x34, 10, 11, true}, {0x34, 10, 19, false}, {0x34, 10, 20, true}, {0x34, 10, 1000000, true}, {0x34, 10, 999999, false},
		{0x36, 10, 4, false}, {0x36, 10, 5, false}, {0x36, 10, 9, false}, {0x36, 10, 10, true}, {0x36, 10, 14, true}, {0x36, 10, 15, false}, {0x36, 10, 1000004, true}, {0x36, 10, 1000005, false},
		{0x30, 10, 9, false}, {0x30, 10, 10, true}, {0x30, 10, 1000000, true},
		{0x30, 0, 65535, false}, {0x30, 0, 65536, true}, {0x30, 0, 65537, true}, {0x30, 0, 65536 * 2, true},
		{0x34, 0, 65534, false}, {0x34, 0, 65535, false}, {0x34, 0, 65536, true}, {0x34, 0, 65536*2 - 2, true}, {0x34, 0, 65536*2 - 1, false}, {0x34, 0, 65536 * 2, true},
		{0x36, 0, 32767, false}, {0x36, 0, 32768, false}, {0x36, 0, 65535, false}, {0x36, 0, 65536, true}, {0x36, 0, 65536 + 32767, true}, {0x36, 0, 65536 + 32768, false},
		{0x34, 1, 70000, false}, {0x36, 1, 70000, false}, {0x3A, 10, 70000, false},
		{0x34, 10, math.MaxInt32, true}, {0x36, 10, math.MaxInt32, false}, {0x36, 0, math.MaxInt32, false}, {0x30, 0, math.MaxInt32, true},
	} {
		b := ready(t, nil)
		outs(t, b, 0x43, row.command, 0x40, row.length%256, 0x40, row.length/256)
		if b.Pending() {
			acks(t, b, 0x20)
		}
		b.Tick(row.n)
		timeIs(t, b, uint64(row.n))
		if is := b.Pending(); is != row.want {
			t.Errorf("command %x, length %d: Tick(%d): Pending %v", row.command, row.length, row.n, is)
		}
	}
}

// P15.4: what the line asked is forgotten when it goes down again, and asked again when it goes up.
func TestTickForgets(t *testing.T) {
	b := ready(t, nil)
	b.Tick(65536)
	pends(t, b, true)
	b.Tick(32767)
	pends(t, b, true)
	b.Tick(1)
	pends(t, b, false)
	b.Tick(32767)
	pends(t, b, false)
	b.Tick(1)
	acks(t, b, 0x20)
	b.Tick(65535)
	pends(t, b, false)
	b.Tick(1)
	acks(t, b, 0x20)
}

// P15.5: ticks at once are ticks one by one, for each mode, from each kind of begin.
func TestTicksAtOnce(t *testing.T) {
	begins := []func(b *bench){
		func(b *bench) {},
		func(b *bench) { b.ack() },
		func(b *bench) { b.ack(); b.outs(0x20, 0x20); b.tick(3) },
		func(b *bench) { b.outs(0x3F9, 1, 0x1F7, 0xE7); b.push(1); b.tick(1) },
	}
	for mode := range uint32(8) {
		t.Run(strconv.Itoa(int(mode)), func(t *testing.T) {
			t.Parallel()
			for n, length := range []uint32{1, 2, 3, 10, 300, 0, 65535} {
				ticks := []int{1, 2, 9, 10, 11, 65535 + n}
				if length == 10 || length == 0 {
					ticks = append(ticks, 65535, 65536, 65537, 131072)
				}
				for i, ticks := range ticks {
					b := newBench(t, nil)
					b.outs(0x20, 0x11, 0x21, 0x20, 0x21, 4, 0x21, 1)
					b.outs(0x43, 0x30|mode<<1, 0x40, length%256, 0x40, length/256)
					begins[(int(mode)+i+n)%len(begins)](b)
					b.tick(ticks)
					b.in(0x20, 4)
					b.in(0x40, 1)
					b.in(0x40, 1)
					b.tick(1)
					b.ack()
					b.tick(70)
					b.end()
				}
			}
		})
	}
}

// P15.5: it does not matter either how ticks are put together.
func TestTicksInPieces(t *testing.T) {
	draw := numbers(5)
	for _, command := range []uint32{0x30, 0x34, 0x36, 0x38} {
		for _, length := range []uint32{2, 77, 40000, 0} {
			whole, pieces := ready(t, nil), ready(t, nil)
			for _, b := range []*Bus{whole, pieces} {
				outs(t, b, 0x43, command, 0x40, length%256, 0x40, length/256)
			}
			const n = 150000
			whole.Tick(n)
			for left := n; left > 0; {
				piece := min(left, 1+draw(60000))
				pieces.Tick(piece)
				left -= piece
			}
			if whole.Pending() != pieces.Pending() || whole.Ack() != pieces.Ack() || whole.Now() != pieces.Now() {
				t.Errorf("command %x, length %d: not the same", command, length)
			}
		}
	}
}

// R1: so many ticks as there can be end, too.
func TestTickOfMost(t *testing.T) {
	b := ready(t, nil)
	b.Tick(math.MaxInt)
	timeIs(t, b, math.MaxInt)
}

// P15.4: bytes that come, with the uart's wishes and without, and whether line 4 is up then.
func TestPush(t *testing.T) {
	b := ready(t, nil)
	b.Push(7)
	pends(t, b, false)
	reads(t, b, 0x20, 1, 0)
	reads(t, b, 0x3FD, 1, 97)
	outs(t, b, 0x3F9, 1)
	acks(t, b, 0x24)
	b.Push(8)
	pends(t, b, false)
	reads(t, b, 0x3FD, 1, 99)
	reads(t, b, 0x3F8, 1, 7, 0)
	b.Push(9)
	acks(t, b, 0x24)
	outs(t, b, 0x3F9, 0)
	reads(t, b, 0x3F8, 1, 9)
	b.Push(10)
	pends(t, b, false)
	outs(t, b, 0x3F9, 2)
	acks(t, b, 0x24)
}

// P15.4: many bytes, with the queue: they are read in their order, and the line goes down behind the last one.
func TestPushMany(t *testing.T) {
	b := ready(t, nil)
	outs(t, b, 0x3FA, 1, 0x3F9, 1)
	for n := range 20 {
		b.Push(byte(n + 100))
	}
	acks(t, b, 0x24)
	reads(t, b, 0x3FD, 1, 99)
	for n := range uint32(16) {
		pends(t, b, false)
		reads(t, b, 0x3F8, 1, n+100)
	}
	reads(t, b, 0x3F8, 1, 0)
	b.Push(1)
	acks(t, b, 0x24)
}

// P15.4: the disk's line: up behind a command, down behind In of 1F7.
func TestDiskLine(t *testing.T) {
	for _, command := range []uint32{0x20, 0x21, 0xEC, 0xE7, 0x91, 0x00} {
		b := ready(t, filled(2))
		outs(t, b, 0x1F6, 0x40, 0x1F3, 1, 0x1F7, command)
		pends(t, b, true)
		reads(t, b, 0xA0, 1, 0x40)
		reads(t, b, 0x20, 1, 4)
		if _, err := b.In(0x1F7, 1); err != api.OK {
			t.Error(err)
		}
		pends(t, b, false)
		reads(t, b, 0xA0, 1, 0)
		reads(t, b, 0x20, 1, 0)
		outs(t, b, 0x1F7, command)
		acks(t, b, 0x2E)
	}
	b := ready(t, filled(2))
	outs(t, b, 0x1F6, 0x40, 0x1F3, 1, 0x1F7, 0x30)
	for range 127 {
		out(t, b, 0x1F0, 4, 1)
	}
	pends(t, b, false)
	out(t, b, 0x1F0, 4, 1)
	acks(t, b, 0x2E)
}

// P15.4: Pending and Ack with nothing, one line, several, and masks.
func TestPendingAck(t *testing.T) {
	b := ready(t, filled(1))
	for range 3 {
		pends(t, b, false)
		if v := b.Ack(); v != 0x27 {
			t.Errorf("Ack of nothing: %x", v)
		}
	}
	up := func() {
		outs(t, b, 0x43, 0x10, 0x43, 0x16, 0x3F9, 0, 0x3FA, 2, 0x3F9, 1)
		reads(t, b, 0x1F7, 1, 80)
		outs(t, b, 0x1F7, 0x91)
		b.Push(1)
	}
	up()
	acks(t, b, 0x20, 0x2E, 0x24)
	for _, row := range []struct {
		first, second uint32
		want          []int
	}{
		{0, 0, []int{0x20, 0x2E, 0x24}},
		{1, 0, []int{0x2E, 0x24}},
		{4, 0, []int{0x20, 0x24}},
		{0, 0x40, []int{0x20, 0x24}},
		{0x10, 0xBF, []int{0x20, 0x2E}},
		{0xFE, 0xFF, []int{0x20}},
		{0xEF, 0xFF, []int{0x24}},
		{0xFB, 0, []int{0x2E}},
		{0xFF, 0xFF, nil},
	} {
		up()
		outs(t, b, 0x21, row.first, 0xA1, row.second)
		acks(t, b, row.want...)
		outs(t, b, 0x21, 0, 0xA1, 0)
		for b.Pending() {
			b.Ack()
			outs(t, b, 0x20, 0x20, 0xA0, 0x20)
		}
	}
}

// P15.4: while a line is served, nothing above it is told; what stays up behind Ack does not ask again.
func TestAckServes(t *testing.T) {
	b := ready(t, nil)
	outs(t, b, 0x43, 0x10, 0x43, 0x16, 0x3F9, 1)
	b.Push(1)
	if v := b.Ack(); v != 0x20 {
		t.Errorf("Ack: %x", v)
	}
	pends(t, b, false)
	if v := b.Ack(); v != 0x27 {
		t.Errorf("Ack while one is served: %x", v)
	}
	outs(t, b, 0x20, 0x20)
	if v := b.Ack(); v != 0x24 {
		t.Errorf("Ack behind the end: %x", v)
	}
	outs(t, b, 0x20, 0x20)
	b.Tick(100)
	pends(t, b, false)
	reads(t, b, 0x20, 1, 0)
}

// P15.4: what was sent is told once, and as a list of its own (R4).
func TestSent(t *testing.T) {
	b := ready(t, nil)
	sends(t, b, "")
	outs(t, b, 0x3F8, 'a')
	out(t, b, 0x3F7, 2, 'b'<<8)
	list := b.Sent()
	if string(list) != "ab" {
		t.Errorf("Sent: %q", list)
	}
	sends(t, b, "")
	list = list[:cap(list)]
	outs(t, b, 0x3F8, 'c', 0x3F8, 'd')
	for i := range list {
		list[i] = 'x'
	}
	sends(t, b, "cd")
	sends(t, b, "")
}

// P15.4: what was written is told once, the disk each time, as lists of their own (R4).
func TestWrittenAndDisk(t *testing.T) {
	disk := filled(3)
	b := ready(t, disk)
	write := func(place uint32, v byte) {
		outs(t, b, 0x1F6, 0x40, 0x1F3, place, 0x1F2, 1, 0x1F7, 0x30)
		for range 256 {
			out(t, b, 0x1F0, 2, uint32(v)*257)
		}
		copy(disk[place*512:], bytes.Repeat([]byte{v}, 512))
	}
	writes(t, b)
	write(2, 7)
	write(0, 8)
	list := b.Written()
	if !slices.Equal(list, []int{2, 0}) {
		t.Errorf("Written: %d", list)
	}
	writes(t, b)
	list = list[:cap(list)]
	write(1, 9)
	for i := range list {
		list[i] = 55
	}
	writes(t, b, 1)
	for range 2 {
		diskIs(t, b, disk)
		told := b.Disk()
		for i := range told {
			told[i] = 1
		}
	}
	diskIs(t, b, disk)
	writes(t, b)
}

// P15.5: buses over memories of their own do not disturb one another.
func TestTwoBuses(t *testing.T) {
	for seed := range uint64(6) {
		first, second := newBench(t, filled(2)), newBench(t, filled(3))
		draw := numbers(seed)
		for range 400 {
			if draw(2) == 0 {
				first.doSomething(draw)
			} else {
				second.doSomething(draw)
			}
			first.memory()
			second.memory()
		}
		first.end()
		second.end()
	}
}

// P15.2: two buses over one memory turn one gate; each tells what it was told itself.
func TestTwoOverOne(t *testing.T) {
	m := newMemory(t)
	first := made(t, m, nil)
	out(t, first, 0x92, 1, 0)
	second := made(t, m, nil)
	gateIs(t, m, true)
	reads(t, first, 0x92, 1, 0)
	reads(t, second, 0x92, 1, 2)
	out(t, second, 0x92, 1, 0)
	gateIs(t, m, false)
	out(t, first, 0x92, 1, 2)
	gateIs(t, m, true)
	reads(t, first, 0x92, 1, 2)
	reads(t, second, 0x92, 1, 0)
}

// R1: every call of a nil Bus: ErrArg where there is an Errno, ahead of all else, and zero values.
func TestNil(t *testing.T) {
	var b *Bus
	for _, port := range nearPorts() {
		for _, size := range []int{0, 1, 2, 3, 4, -1} {
			if err := b.Out(port, size, 1); err != api.ErrArg {
				t.Errorf("Out(%x, %d): %d", port, size, err)
			}
			if v, err := b.In(port, size); v != 0 || err != api.ErrArg {
				t.Errorf("In(%x, %d): %d, %d", port, size, v, err)
			}
		}
	}
	for _, n := range []int{0, 1, -1, 100000, math.MaxInt, math.MinInt} {
		b.Tick(n)
	}
	b.Push(1)
	timeIs(t, b, 0)
	pends(t, b, false)
	if v := b.Ack(); v != 0 {
		t.Errorf("Ack: %d", v)
	}
	sends(t, b, "")
	writes(t, b)
	diskIs(t, b, nil)
}

// R1: a bus that New did not make: no call panics.
func TestHandMade(t *testing.T) {
	b := &Bus{}
	for _, port := range nearPorts() {
		for _, size := range []int{0, 1, 2, 4, -1} {
			b.Out(port, size, 0xFFFFFFFF)
			b.In(port, size)
		}
	}
	b.Tick(-1)
	b.Tick(70000)
	timeIs(t, b, 70000)
	b.Push(1)
	pends(t, b, false)
	b.Ack()
	sends(t, b, "")
	writes(t, b)
	diskIs(t, b, nil)
	if b, err := New(&ram.Ram{}, filled(1)); b == nil || err != api.OK {
		t.Errorf("New over a memory without pages: %v, %d", b != nil, err)
	}
}

// doSomething says one thing to both, more often a thing that a program would say.
func (b *bench) doSomething(draw func(int) int) {
	b.t.Helper()
	some := func(list []uint32) uint32 { return list[draw(len(list))] }
	size := []int{1, 1, 2, 4}[draw(4)]
	switch draw(16) {
	case 0:
		ports := nearPorts()
		b.out(ports[draw(len(ports))], size, uint32(draw(1<<31))*2)
	case 1:
		ports := nearPorts()
		b.in(ports[draw(len(ports))], size)
	case 2:
		b.out(uint16(draw(65536)), []int{0, 1, 2, 3, 4, 5, -1}[draw(7)], uint32(draw(1<<31)))
		b.in(uint16(draw(65536)), []int{0, 1, 2, 3, 4, 5, -1}[draw(7)])
	case 3:
		b.outs(0x20, some([]uint32{0x11, 0x20, 0x20, 0x0A, 0x0B, 0x61}), 0x21, some([]uint32{0, 0, 0x20, 1, 4, 0xFE}))
	case 4:
		b.outs(0xA0, some([]uint32{0x11, 0x20, 0x20, 0x0A, 0x0B, 0x61}), 0xA1, some([]uint32{0, 0, 0x28, 1, 2, 0xBF}))
	case 5:
		b.ack()
		b.outs(0x20, 0x20, 0xA0, 0x20)
	case 6:
		b.outs(0x43, uint32(draw(256)), uint32(0x40+draw(3)), uint32(draw(256)))
	case 7:
		b.outs(0x43, some([]uint32{0x10, 0x14, 0x16, 0x34, 0x36, 0}), 0x40, uint32(draw(20)))
	case 8:
		b.tick(draw(12) - 1)
	case 9:
		b.tick(draw(900))
	case 10:
		b.push(byte(draw(256)), byte(draw(256)))
		b.outs(0x3F9, uint32(draw(4)))
	case 11:
		b.outs(0x3FB, 0, 0x3F8, uint32(draw(256)))
		b.in(0x3F8, size)
		b.in(0x3FA, 1)
	case 12, 13:
		b.outs(0x3F6, uint32(draw(8)/7*2), 0x1F2, uint32(draw(3)), 0x1F3, uint32(draw(3)), 0x1F4, 0, 0x1F5, 0, 0x1F6, 0x40)
		b.outs(0x1F7, some([]uint32{0x20, 0x30, 0x30, 0xEC, 0xE7, 0x77}))
	case 14:
		for range draw(600) {
			b.out(0x1F0, size, uint32(draw(1<<31)))
			b.in(0x1F0, size)
		}
	case 15:
		b.sent()
		b.written()
		b.disk()
	}
}

// P15.1 to P15.5: rows of calls that seem to be drawn.
func TestDrawnCalls(t *testing.T) {
	for seed := range uint64(60) {
		b := newBench(t, filled(int(seed%4)))
		draw := numbers(seed + 1000)
		for range 300 {
			b.doSomething(draw)
			b.memory()
		}
		b.end()
	}
}
