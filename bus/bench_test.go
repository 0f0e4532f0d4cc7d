package bus

import (
	"bytes"
	"slices"
	"strconv"
	"testing"

	"drawloom/api"
	"drawloom/ide"
	"drawloom/pic"
	"drawloom/pit"
	"drawloom/ram"
	"drawloom/uart"
)

// parts are what a bus is made of, used by hand: devices of their own, ports told apart by their numbers, ticks one by one.
type parts struct {
	memory *ram.Ram
	pic    *pic.Pic
	pit    *pit.Pit
	uart   *uart.Uart
	ide    *ide.Ide
	now    uint64
	gate   byte
}

func newParts(t *testing.T, disk []byte) *parts {
	t.Helper()
	drive, err := ide.New(disk)
	if err != api.OK {
		t.Fatalf("ide.New: %d", err)
	}
	p := &parts{memory: newMemory(t), pic: pic.New(), pit: pit.New(), uart: uart.New(), ide: drive, gate: 2}
	p.tell()
	return p
}

func (p *parts) tell() {
	p.pic.Line(0, p.pit.Line(p.now))
	p.pic.Line(4, p.uart.Line())
	p.pic.Line(14, p.ide.Line())
}

// P15.2, port by port.
func (p *parts) outByte(port int, v byte) {
	switch {
	case port == 0x20 || port == 0x21:
		p.pic.Out(port-0x20, v)
	case port == 0xA0 || port == 0xA1:
		p.pic.Out(port-0xA0+2, v)
	case port >= 0x40 && port <= 0x43:
		p.pit.Out(port-0x40, v, p.now)
	case port >= 0x3F8 && port <= 0x3FF:
		p.uart.Out(port-0x3F8, v)
	case port >= 0x1F0 && port <= 0x1F7:
		p.ide.Out(port-0x1F0, 1, uint32(v))
	case port == 0x3F6:
		p.ide.Out(8, 1, uint32(v))
	case port == 0x92:
		p.gate = v / 2 % 2 * 2
		p.memory.Gate(p.gate == 2)
	}
}

func (p *parts) inByte(port int) byte {
	v, wide := byte(255), uint32(0)
	switch {
	case port == 0x20 || port == 0x21:
		v, _ = p.pic.In(port - 0x20)
	case port == 0xA0 || port == 0xA1:
		v, _ = p.pic.In(port - 0xA0 + 2)
	case port >= 0x40 && port <= 0x43:
		v, _ = p.pit.In(port-0x40, p.now)
	case port >= 0x3F8 && port <= 0x3FF:
		v, _ = p.uart.In(port - 0x3F8)
	case port >= 0x1F0 && port <= 0x1F7:
		wide, _ = p.ide.In(port-0x1F0, 1)
		v = byte(wide)
	case port == 0x3F6:
		wide, _ = p.ide.In(8, 1)
		v = byte(wide)
	case port == 0x92:
		v = p.gate
	}
	return v
}

// P15.3.
func (p *parts) out(port uint16, size int, v uint32) api.Errno {
	if size != 1 && size != 2 && size != 4 {
		return api.ErrSize
	}
	if port == 0x1F0 {
		p.ide.Out(0, size, v)
	} else {
		for n := range size {
			p.outByte((int(port)+n)%65536, byte(v%256))
			v /= 256
		}
	}
	p.tell()
	return api.OK
}

func (p *parts) in(port uint16, size int) (uint32, api.Errno) {
	if size != 1 && size != 2 && size != 4 {
		return 0, api.ErrSize
	}
	v := uint32(0)
	if port == 0x1F0 {
		v, _ = p.ide.In(0, size)
	} else {
		times := uint32(1)
		for n := range size {
			v += uint32(p.inByte((int(port)+n)%65536)) * times
			times *= 256
		}
	}
	p.tell()
	return v, api.OK
}

// P15.4.
func (p *parts) tick(n int) {
	for ; n > 0; n-- {
		p.now++
		p.tell()
	}
}

func (p *parts) push(v byte) {
	p.uart.Push(v)
	p.tell()
}

func (p *parts) ack() int {
	v := p.pic.Ack()
	p.tell()
	return v
}

// bench says the same to a bus and to parts, and holds their answers against each other.
type bench struct {
	t *testing.T
	m *ram.Ram
	b *Bus
	p *parts
}

func newBench(t *testing.T, disk []byte) *bench {
	t.Helper()
	m := newMemory(t)
	return &bench{t, m, made(t, m, disk), newParts(t, disk)}
}

func (b *bench) out(port uint16, size int, v uint32) {
	b.t.Helper()
	if err, want := b.b.Out(port, size, v), b.p.out(port, size, v); err != want {
		b.t.Fatalf("Out(%x, %d, %x): %d, want %d", port, size, v, err, want)
	}
	b.pending()
}

// outs writes bytes, in pairs of port and value.
func (b *bench) outs(pairs ...uint32) {
	b.t.Helper()
	for n := 0; n < len(pairs); n += 2 {
		b.out(uint16(pairs[n]), 1, pairs[n+1])
	}
}

func (b *bench) in(port uint16, size int) {
	b.t.Helper()
	v, err := b.b.In(port, size)
	if want, wantErr := b.p.in(port, size); v != want || err != wantErr {
		b.t.Fatalf("In(%x, %d): %x, %d, want %x, %d", port, size, v, err, want, wantErr)
	}
	b.pending()
}

func (b *bench) tick(n int) {
	b.t.Helper()
	b.b.Tick(n)
	b.p.tick(n)
	b.pending()
	if now := b.b.Now(); now != b.p.now {
		b.t.Fatalf("Now behind Tick(%d): %d, want %d", n, now, b.p.now)
	}
}

func (b *bench) push(list ...byte) {
	b.t.Helper()
	for _, v := range list {
		b.b.Push(v)
		b.p.push(v)
		b.pending()
	}
}

func (b *bench) pending() {
	b.t.Helper()
	if is, want := b.b.Pending(), b.p.pic.Pending(); is != want {
		b.t.Fatalf("Pending: %v, want %v", is, want)
	}
}

func (b *bench) ack() {
	b.t.Helper()
	if v, want := b.b.Ack(), b.p.ack(); v != want {
		b.t.Fatalf("Ack: %x, want %x", v, want)
	}
	b.pending()
}

func (b *bench) sent() {
	b.t.Helper()
	if list, want := b.b.Sent(), b.p.uart.Sent(); !bytes.Equal(list, want) {
		b.t.Fatalf("Sent: %d, want %d", list, want)
	}
}

func (b *bench) written() {
	b.t.Helper()
	if list, want := b.b.Written(), b.p.ide.Written(); !slices.Equal(list, want) {
		b.t.Fatalf("Written: %d, want %d", list, want)
	}
}

func (b *bench) disk() {
	b.t.Helper()
	if !bytes.Equal(b.b.Disk(), b.p.ide.Disk()) {
		b.t.Fatal("Disk: other bytes")
	}
}

func (b *bench) memory() {
	b.t.Helper()
	if list, want := b.m.Dump(0xFFFF8, 16), b.p.memory.Dump(0xFFFF8, 16); !bytes.Equal(list, want) {
		b.t.Fatalf("memory at the gate's place: %d, want %d", list, want)
	}
}

// end asks all that there is, so that what is kept unseen comes out too.
func (b *bench) end() {
	b.t.Helper()
	b.pending()
	b.memory()
	b.sent()
	b.written()
	b.disk()
	for _, port := range devicePorts() {
		b.in(port, 1)
	}
	b.endPics()
	b.endTimer()
	b.endDisk()
	b.endSerial()
	b.pending()
	b.memory()
}

// endPics ends set-ups, asks both chips for what is served, and lets them tell all that they have.
func (b *bench) endPics() {
	b.t.Helper()
	for _, port := range []uint16{0x20, 0xA0} {
		b.outs(uint32(port)+1, 0, uint32(port)+1, 0, uint32(port)+1, 0, uint32(port)+1, 0, uint32(port), 0x0B)
		b.in(port, 2)
	}
	for range 4 {
		b.outs(0x20, 0x20, 0xA0, 0x20)
		b.ack()
	}
}

func (b *bench) endTimer() {
	b.t.Helper()
	for range 3 {
		for n := range uint16(3) {
			b.in(0x40+n, 1)
		}
		b.tick(5)
	}
}

// endDisk ends what another drive or control hides, and what is left of the buffer.
func (b *bench) endDisk() {
	b.t.Helper()
	b.outs(0x3F6, 0, 0x1F6, 0x40)
	for port := uint16(0x1F1); port <= 0x1F7; port++ {
		b.in(port, 1)
	}
	b.in(0x1F0, 2)
	for range 300 {
		if how, _ := b.p.ide.In(8, 1); how/8%2 == 0 {
			break
		}
		b.in(0x1F0, 4)
		b.out(0x1F0, 4, 0xA5C3F00F)
	}
	b.in(0x1F7, 1)
	b.written()
	b.disk()
}

func (b *bench) endSerial() {
	b.t.Helper()
	b.outs(0x3FB, 0x80)
	b.in(0x3F8, 2)
	b.outs(0x3FB, 0)
	for range 18 {
		b.in(0x3F8, 1)
		b.in(0x3FA, 1)
		b.in(0x3FD, 1)
	}
	b.sent()
}

// devicePorts are those that are somebody's, as the chapter lists them.
func devicePorts() []uint16 {
	list := []uint16{0x20, 0x21, 0xA0, 0xA1, 0x40, 0x41, 0x42, 0x43, 0x92, 0x3F6}
	for n := range uint16(8) {
		list = append(list, 0x3F8+n, 0x1F0+n)
	}
	return list
}

// nearPorts are those, and all whose bytes of a size can touch them, and those behind them, and the last ones.
func nearPorts() []uint16 {
	list := []uint16{}
	for _, port := range devicePorts() {
		for n := range uint16(7) {
			list = append(list, port-4+n)
		}
	}
	for n := range uint16(8) {
		list = append(list, 0xFFFC+n)
	}
	slices.Sort(list)
	return slices.Compact(list)
}

// newMemory is one that tells by what is read at the gate's place whether the gate is open.
func newMemory(t *testing.T) *ram.Ram {
	t.Helper()
	m, err := ram.New(1)
	if err != api.OK {
		t.Fatalf("ram.New: %d", err)
	}
	m.Load(0, []byte{1, 2, 3, 4, 5, 6, 7, 8})
	return m
}

func made(t *testing.T, m *ram.Ram, disk []byte) *Bus {
	t.Helper()
	b, err := New(m, disk)
	if b == nil || err != api.OK {
		t.Fatalf("New with %d bytes: %v, %d", len(disk), b != nil, err)
	}
	return b
}

// filled is a disk no two sectors of which are alike, nor are a sector's bytes.
func filled(sectors int) []byte {
	disk := []byte{}
	for n := range sectors {
		for i := range 512 {
			disk = append(disk, byte(n*37+i*7+i/256*3+11))
		}
	}
	return disk
}

// outs writes bytes, in pairs of port and value.
func outs(t *testing.T, b *Bus, pairs ...uint32) {
	t.Helper()
	for n := 0; n < len(pairs); n += 2 {
		out(t, b, uint16(pairs[n]), 1, pairs[n+1])
	}
}

func out(t *testing.T, b *Bus, port uint16, size int, v uint32) {
	t.Helper()
	if err := b.Out(port, size, v); err != api.OK {
		t.Errorf("Out(%x, %d, %x): %d", port, size, v, err)
	}
}

// reads reads a port again and again.
func reads(t *testing.T, b *Bus, port uint16, size int, want ...uint32) {
	t.Helper()
	for n, w := range want {
		if v, err := b.In(port, size); v != w || err != api.OK {
			t.Errorf("In(%x, %d), time %d: %x, %d, want %x", port, size, n+1, v, err, w)
		}
	}
}

func pends(t *testing.T, b *Bus, want bool) {
	t.Helper()
	if is := b.Pending(); is != want {
		t.Errorf("Pending: %v, want %v", is, want)
	}
}

// acks holds vectors one behind the other, each line ended at once; then nothing is left to tell.
func acks(t *testing.T, b *Bus, want ...int) {
	t.Helper()
	for _, w := range want {
		pends(t, b, true)
		if v := b.Ack(); v != w {
			t.Errorf("Ack: %x, want %x", v, w)
		}
		outs(t, b, 0x20, 0x20, 0xA0, 0x20)
	}
	pends(t, b, false)
}

func timeIs(t *testing.T, b *Bus, want uint64) {
	t.Helper()
	if now := b.Now(); now != want {
		t.Errorf("Now: %d, want %d", now, want)
	}
}

func sends(t *testing.T, b *Bus, want string) {
	t.Helper()
	if list := b.Sent(); string(list) != want {
		t.Errorf("Sent: %q, want %q", list, want)
	}
}

func writes(t *testing.T, b *Bus, want ...int) {
	t.Helper()
	if list := b.Written(); !slices.Equal(list, want) {
		t.Errorf("Written: %d, want %d", list, want)
	}
}

func diskIs(t *testing.T, b *Bus, want []byte) {
	t.Helper()
	if !bytes.Equal(b.Disk(), want) {
		t.Error("Disk: other bytes")
	}
}

// gateIs holds what memory answers above the gate's place: nothing is there, or, with the gate closed, what lies below.
func gateIs(t *testing.T, m *ram.Ram, open bool) {
	t.Helper()
	want := uint32(4)
	if open {
		want = 255
	}
	if v, err := m.Read(0x100003, 1); v != want || err != api.OK {
		t.Errorf("memory above the gate's place: %d, %d, want %d", v, err, want)
	}
	if v, err := m.Read(3, 1); v != 4 || err != api.OK {
		t.Errorf("memory below the gate's place: %d, %d", v, err)
	}
}

// ready is a bus whose pics are set up (0x20 and 0x28 their bases), with nothing to tell.
func ready(t *testing.T, disk []byte) *Bus {
	t.Helper()
	b := made(t, newMemory(t), disk)
	setUp(t, b)
	return b
}

func setUp(t *testing.T, b *Bus) {
	t.Helper()
	outs(t, b, 0x20, 0x11, 0x21, 0x20, 0x21, 4, 0x21, 1, 0xA0, 0x11, 0xA1, 0x28, 0xA1, 2, 0xA1, 1)
	pends(t, b, false)
}

// states are ways to come into the middle of something.
func states() []func(b *bench) {
	pics := func(b *bench) {
		b.outs(0x20, 0x11, 0x21, 0x20, 0x21, 4, 0x21, 1, 0xA0, 0x11, 0xA1, 0x28, 0xA1, 2, 0xA1, 1)
	}
	sector := func(b *bench, command uint32, bytes int) {
		b.outs(0x1F2, 2, 0x1F6, 0x40, 0x1F7, command)
		for n := range bytes / 4 {
			b.in(0x1F0, 4)
			b.out(0x1F0, 4, uint32(n*0x01030507))
		}
		for n := range bytes % 4 {
			b.in(0x1F0, 1)
			b.out(0x1F0, 1, uint32(n*5+1))
		}
	}
	return []func(b *bench){
		func(b *bench) {},
		pics,
		func(b *bench) { pics(b); b.outs(0x21, 0x55, 0xA1, 0xAA, 0x43, 0x36, 0x40, 9, 0x40, 0); b.tick(15) },
		func(b *bench) { pics(b); b.outs(0x20, 0x11, 0xA0, 0x13) },
		func(b *bench) { pics(b); b.outs(0x43, 0x30, 0x40, 7, 0x40, 0, 0x43, 0x54, 0x41, 9); b.tick(7); b.ack() },
		func(b *bench) { b.outs(0x43, 0x10, 0x40, 5, 0x43, 0x40); b.tick(9); b.in(0x41, 1) },
		func(b *bench) { pics(b); b.outs(0x3FA, 1, 0x3F9, 3); b.push(9, 8, 7); b.outs(0x3F8, 65) },
		func(b *bench) { b.push(9, 8); b.outs(0x3FB, 0x83, 0x3F8, 12, 0x3F9, 34, 0x3FF, 56) },
		func(b *bench) { pics(b); sector(b, 0x20, 5) },
		func(b *bench) { pics(b); sector(b, 0x20, 510); b.in(0x1F7, 1) },
		func(b *bench) { sector(b, 0x30, 510); b.in(0x1F7, 1) },
		func(b *bench) { pics(b); sector(b, 0x30, 511) },
		func(b *bench) { sector(b, 0xEC, 98) },
		func(b *bench) { pics(b); b.outs(0x1F7, 0x20); b.ack() },
		func(b *bench) { sector(b, 0x20, 3); b.outs(0x1F6, 0x50, 0x3F6, 2) },
		func(b *bench) { b.outs(0x92, 1) },
	}
}

// inEachState does something behind each state, all of them at the same time.
func inEachState(t *testing.T, do func(t *testing.T, n int, get func(b *bench))) {
	for n, get := range states() {
		t.Run(strconv.Itoa(n), func(t *testing.T) {
			t.Parallel()
			do(t, n, get)
		})
	}
}

// numbers are such as seem to be drawn, the same each time.
func numbers(seed uint64) func(below int) int {
	x := seed
	return func(below int) int {
		x = x*6364136223846793005 + 1442695040888963407
		return int(x>>33) % below
	}
}
