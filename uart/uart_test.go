package uart

import (
	"math"
	"slices"
	"testing"

	"drawloom/api"
)

// model is a serial port in numbers and lists alone: what the promises say, without a channel.
type model struct {
	came, sent           []byte
	lost, toTell, on     bool
	lower, upper         byte
	wanted               [4]bool
	line, modem, scratch int
}

func (m *model) latched() bool { return m.line >= 128 }

// P13.2, register by register.
func (m *model) out(reg int, v byte) api.Errno {
	switch reg {
	case 0:
		if m.latched() {
			m.lower = v
		} else {
			m.sent = append(m.sent, v)
			m.toTell = true
		}
	case 1:
		if m.latched() {
			m.upper = v
		} else {
			m.want(int(v))
		}
	case 2:
		on := v%2 == 1
		if v/2%2 == 1 || on != m.on {
			m.came = nil
		}
		m.on = on
	case 3:
		m.line = int(v)
	case 4:
		m.modem = int(v) % 32
	case 5, 6:
	case 7:
		m.scratch = int(v)
	default:
		return api.ErrArg
	}
	return api.OK
}

func (m *model) want(v int) {
	was := m.wanted[1]
	for n := range m.wanted {
		m.wanted[n] = v%2 == 1
		v /= 2
	}
	if !was && m.wanted[1] {
		m.toTell = true
	}
}

// P13.3, register by register.
func (m *model) in(reg int) (byte, api.Errno) {
	v := 0
	switch reg {
	case 0:
		v = int(m.lower)
		if !m.latched() {
			v = m.take()
		}
	case 1:
		v = int(m.upper)
		if !m.latched() {
			v = m.asWanted()
		}
	case 2:
		v = m.cause()
	case 3:
		v = m.line
	case 4:
		v = m.modem
	case 5:
		v = m.status()
	case 6:
		v = 176
	case 7:
		v = m.scratch
	default:
		return 0, api.ErrArg
	}
	return byte(v), api.OK
}

func (m *model) take() int {
	if len(m.came) == 0 {
		return 0
	}
	v := m.came[0]
	m.came = m.came[1:]
	return int(v)
}

func (m *model) asWanted() int {
	v := 0
	for n, bit := range [4]int{1, 2, 4, 8} {
		if m.wanted[n] {
			v += bit
		}
	}
	return v
}

func (m *model) cause() int {
	v := 1
	if len(m.came) > 0 && m.wanted[0] {
		v = 4
	} else if m.toTell && m.wanted[1] {
		m.toTell = false
		v = 2
	}
	if m.on {
		v += 192
	}
	return v
}

func (m *model) status() int {
	v := 96
	if len(m.came) > 0 {
		v++
	}
	if m.lost {
		v += 2
	}
	m.lost = false
	return v
}

// P13.4.
func (m *model) push(b byte) {
	room := 1
	if m.on {
		room = 16
	}
	if len(m.came) >= room {
		m.lost = true
		return
	}
	m.came = append(m.came, b)
}

func (m *model) told() []byte {
	sent := m.sent
	m.sent = nil
	return sent
}

func (m *model) interrupts() bool {
	return len(m.came) > 0 && m.wanted[0] || m.toTell && m.wanted[1]
}

// bench says the same to a Uart and to a model, and holds their answers against each other.
type bench struct {
	t *testing.T
	u *Uart
	m *model
}

func newBench(t *testing.T) *bench { return &bench{t, New(), &model{}} }

func (b *bench) out(reg int, v byte) {
	b.t.Helper()
	if err, want := b.u.Out(reg, v), b.m.out(reg, v); err != want {
		b.t.Fatalf("Out(%d, %d): %d, want %d", reg, v, err, want)
	}
	b.line()
}

func (b *bench) in(reg int) {
	b.t.Helper()
	v, err := b.u.In(reg)
	want, wantErr := b.m.in(reg)
	if v != want || err != wantErr {
		b.t.Fatalf("In(%d): %d, %d, want %d, %d", reg, v, err, want, wantErr)
	}
	b.line()
}

func (b *bench) push(bytes ...byte) {
	b.t.Helper()
	for _, v := range bytes {
		b.u.Push(v)
		b.m.push(v)
		b.line()
	}
}

func (b *bench) sent() {
	b.t.Helper()
	if told, want := b.u.Sent(), b.m.told(); !slices.Equal(told, want) {
		b.t.Fatalf("Sent: %d, want %d", told, want)
	}
	b.line()
}

func (b *bench) line() {
	b.t.Helper()
	if up, want := b.u.Line(), b.m.interrupts(); up != want {
		b.t.Fatalf("Line: %v, want %v", up, want)
	}
}

// end reads all that there is, so that what is kept unseen comes out too. What the latch hides is read by setting it and taking it away.
func (b *bench) end() {
	b.t.Helper()
	for reg := -1; reg <= registers; reg++ {
		b.in(reg)
	}
	b.sent()
	for _, line := range []byte{128, 0} {
		b.out(3, line)
		b.in(0)
		b.in(1)
	}
	for _, wanted := range []byte{1, 3, 0} {
		b.out(1, wanted)
		b.in(2)
		b.in(2)
	}
	for range api.MaxFifo + 1 {
		b.in(0)
		b.in(5)
	}
}

// outs writes to registers, in pairs of register and value.
func outs(t *testing.T, u *Uart, pairs ...byte) {
	t.Helper()
	for n := 0; n < len(pairs); n += 2 {
		if err := u.Out(int(pairs[n]), pairs[n+1]); err != api.OK {
			t.Fatalf("Out(%d, %d): %d", pairs[n], pairs[n+1], err)
		}
	}
}

// reads reads a register again and again.
func reads(t *testing.T, u *Uart, reg int, want ...byte) {
	t.Helper()
	for n, w := range want {
		if v, err := u.In(reg); v != w || err != api.OK {
			t.Errorf("In(%d), time %d: %d, %d, want %d", reg, n+1, v, err, w)
		}
	}
}

func pushes(u *Uart, bytes ...byte) {
	for _, b := range bytes {
		u.Push(b)
	}
}

func tells(t *testing.T, u *Uart, want ...byte) {
	t.Helper()
	if sent := u.Sent(); !slices.Equal(sent, want) {
		t.Errorf("Sent: %d, want %d", sent, want)
	}
}

func lineIs(t *testing.T, u *Uart, want bool) {
	t.Helper()
	if up := u.Line(); up != want {
		t.Errorf("Line: %v, want %v", up, want)
	}
}

// count are the bytes first, first + 1, and so on.
func count(first byte, n int) []byte {
	list := []byte{}
	for range n {
		list = append(list, first)
		first++
	}
	return list
}

// The chapter's examples, one behind the other on one port and each on a new one.
func TestExamples(t *testing.T) {
	rows := []func(u *Uart){
		func(u *Uart) {
			outs(t, u, 0, 65, 0, 66)
			tells(t, u, 65, 66)
			tells(t, u)
		},
		func(u *Uart) {
			pushes(u, 7, 8)
			reads(t, u, 5, 99, 97)
			reads(t, u, 0, 7)
			reads(t, u, 5, 96)
		},
		func(u *Uart) {
			outs(t, u, 2, 1, 1, 3)
			reads(t, u, 2, 194)
			u.Push(9)
			lineIs(t, u, true)
			reads(t, u, 2, 196)
			reads(t, u, 0, 9)
			reads(t, u, 2, 193)
		},
	}
	together := New()
	for _, row := range rows {
		row(New())
		row(together)
	}
}

// P13.1: of a new port each register is 0 or what it always tells, as often as it is asked; the divisor is 0, the line down, and nothing was sent.
func TestNew(t *testing.T) {
	for reg, want := range []byte{0, 0, 1, 0, 0, 96, 176, 0} {
		u := New()
		reads(t, u, reg, want, want)
		lineIs(t, u, false)
		tells(t, u)
	}
	u := New()
	outs(t, u, 3, 128)
	reads(t, u, 0, 0, 0)
	reads(t, u, 1, 0, 0)
	newBench(t).end()
}

// P13.1: it is one more at each call.
func TestNewAlone(t *testing.T) {
	first, second := New(), New()
	pushes(first, 1, 2)
	outs(t, first, 0, 5, 1, 15, 2, 1, 4, 9, 7, 7, 3, 128, 0, 1, 1, 2)
	b := &bench{t, second, &model{}}
	b.end()
}

// P13.1: registers that are none; nothing has changed then (R3).
func TestRegisters(t *testing.T) {
	for _, line := range []byte{0, 128} {
		for _, reg := range []int{-1, 8, -2, 9, -8, 16, 256, -256, 255, 1 << 32, math.MaxInt, math.MinInt} {
			b := newBench(t)
			b.push(3, 4)
			b.out(0, 66)
			b.out(1, 3)
			b.out(3, line)
			for _, v := range []byte{0, 1, 2, 255} {
				if err := b.u.Out(reg, v); err != api.ErrArg {
					t.Errorf("Out(%d, %d): %d", reg, v, err)
				}
			}
			if v, err := b.u.In(reg); v != 0 || err != api.ErrArg {
				t.Errorf("In(%d): %d, %d", reg, v, err)
			}
			b.end()
		}
	}
}

// P13.1 to P13.3: each register written with each byte, the latch set and not set: what it tells, and what the others do.
func TestEachRegisterAndByte(t *testing.T) {
	for _, line := range []byte{0, 128, 127, 255} {
		for reg := range registers {
			for v := range 256 {
				b := newBench(t)
				b.push(3, 4)
				b.out(3, line)
				b.out(reg, byte(v))
				b.in(reg)
				b.end()
			}
		}
	}
}

// P13.1: bit 7 of line control alone is the latch.
func TestLatch(t *testing.T) {
	for line := range 256 {
		u := New()
		outs(t, u, 3, byte(line), 0, 11, 1, 12)
		reads(t, u, 3, byte(line))
		if line >= 128 {
			reads(t, u, 0, 11)
			reads(t, u, 1, 12)
			tells(t, u)
		} else {
			reads(t, u, 0, 0)
			reads(t, u, 1, 12)
			tells(t, u, 11)
		}
	}
}

// P13.2, P13.3: what is written and read with the latch touches nothing that is without it.
func TestLatchHides(t *testing.T) {
	u := New()
	pushes(u, 5)
	outs(t, u, 1, 1, 3, 128, 0, 21, 1, 22)
	reads(t, u, 0, 21, 21)
	reads(t, u, 1, 22, 22)
	lineIs(t, u, true)
	reads(t, u, 2, 4)
	reads(t, u, 5, 97)
	tells(t, u)

	outs(t, u, 3, 0)
	reads(t, u, 1, 1)
	reads(t, u, 0, 5, 0)
	outs(t, u, 0, 31, 1, 2)
	tells(t, u, 31)

	outs(t, u, 3, 128)
	reads(t, u, 0, 21)
	reads(t, u, 1, 22)
}

// P13.2: with the latch nothing is sent, so that there is nothing to tell; and bit 1 of the divisor's upper byte wants nothing.
func TestLatchTellsNothing(t *testing.T) {
	u := New()
	outs(t, u, 1, 2)
	reads(t, u, 2, 2, 1)
	outs(t, u, 3, 128, 0, 65)
	reads(t, u, 2, 1)
	outs(t, u, 1, 0, 1, 2)
	reads(t, u, 2, 1)
	lineIs(t, u, false)
	outs(t, u, 3, 0)
	reads(t, u, 2, 1)
	reads(t, u, 1, 2)
	tells(t, u)
}

// P13.2, P13.3: the divisor's two bytes are two.
func TestDivisor(t *testing.T) {
	u := New()
	outs(t, u, 3, 128, 0, 1)
	reads(t, u, 0, 1)
	reads(t, u, 1, 0)
	outs(t, u, 1, 255)
	reads(t, u, 0, 1)
	reads(t, u, 1, 255)
	outs(t, u, 0, 254)
	reads(t, u, 0, 254)
	reads(t, u, 1, 255)
	outs(t, u, 3, 3)
	outs(t, u, 3, 131)
	reads(t, u, 0, 254)
	reads(t, u, 1, 255)
}

// P13.2, P13.3: bits that are not kept, and registers that can't be written.
func TestBitsKept(t *testing.T) {
	for _, c := range []struct {
		reg     int
		v, want byte
	}{
		{1, 255, 15}, {1, 0xF0, 0}, {1, 16, 0}, {1, 8, 8}, {1, 4, 4}, {1, 0x2A, 10},
		{4, 255, 31}, {4, 0xE0, 0}, {4, 32, 0}, {4, 16, 16}, {4, 0x55, 0x15},
		{3, 127, 127}, {3, 255, 255}, {3, 128, 128}, {7, 255, 255}, {7, 0xA5, 0xA5}, {7, 1, 1},
		{5, 255, 96}, {5, 3, 96}, {5, 0, 96}, {6, 0, 176}, {6, 255, 176}, {6, 79, 176},
	} {
		for _, before := range []byte{0, 255} {
			u := New()
			outs(t, u, byte(c.reg), before)
			outs(t, u, byte(c.reg), c.v)
			reads(t, u, c.reg, c.want, c.want)
		}
	}
}

// P13.2, P13.3: that a byte is there or was lost is not written away.
func TestStatusNotWritten(t *testing.T) {
	for _, reg := range []byte{5, 6} {
		for _, v := range []byte{0, 1, 2, 3, 255} {
			u := New()
			pushes(u, 7, 8)
			outs(t, u, reg, v)
			reads(t, u, 5, 99, 97)
			reads(t, u, 0, 7)
		}
	}
}

// P13.2: the queue turned on and off, with bit 1 and without: what came is forgotten where it changes or bit 1 is set. That one was lost is not.
func TestQueue(t *testing.T) {
	for _, c := range []struct {
		from, v byte
		forgets bool
	}{
		{0, 0, false}, {0, 1, true}, {0, 2, true}, {0, 3, true},
		{1, 0, true}, {1, 1, false}, {1, 2, true}, {1, 3, true},
		{0, 0xFC, false}, {0, 0xFD, true}, {0, 0xFE, true}, {0, 0xFF, true},
		{1, 0xFC, true}, {1, 0xFD, false}, {1, 0xFE, true}, {1, 0xFF, true},
	} {
		on := byte(0)
		if c.v%2 == 1 {
			on = 192
		}
		u := New()
		outs(t, u, 2, c.from, 2, c.v)
		reads(t, u, 2, 1+on)
		reads(t, u, 5, 96)
		reads(t, u, 0, 0)

		u = New()
		outs(t, u, 2, c.from, 1, 1)
		pushes(u, 7)
		if c.from == 1 {
			pushes(u, 8)
		}
		outs(t, u, 2, c.v)
		switch {
		case c.forgets:
			lineIs(t, u, false)
			reads(t, u, 2, 1+on)
			reads(t, u, 5, 96)
			reads(t, u, 0, 0, 0)
		case c.from == 1:
			lineIs(t, u, true)
			reads(t, u, 2, 4+on)
			reads(t, u, 0, 7, 8, 0)
		default:
			lineIs(t, u, true)
			reads(t, u, 2, 4+on)
			reads(t, u, 0, 7, 0)
		}
		// What comes now finds as much room as there is.
		pushes(u, count(10, 17)...)
		if on > 0 {
			reads(t, u, 0, count(10, 16)...)
		} else {
			reads(t, u, 0, 10)
		}
		reads(t, u, 5, 98, 96)
	}
}

// P13.2: one that was lost is told though what came be forgotten.
func TestForgottenNotLost(t *testing.T) {
	u := New()
	pushes(u, 1, 2)
	outs(t, u, 2, 2)
	reads(t, u, 5, 98, 96)
	pushes(u, 1)
	outs(t, u, 2, 2)
	reads(t, u, 5, 96)
}

// P13.2: turning the queue touches neither what was sent nor what is to be told of it.
func TestQueueNotSent(t *testing.T) {
	for v := range 4 {
		u := New()
		outs(t, u, 1, 2)
		reads(t, u, 2, 2, 1)
		outs(t, u, 0, 65, 2, byte(v), 0, 66)
		lineIs(t, u, true)
		on := byte(v % 2 * 192)
		reads(t, u, 2, 2+on, 1+on)
		tells(t, u, 65, 66)
	}
}

// P13.4: bytes that come with room for them and without: one with the queue off, 16 with it on.
func TestRoom(t *testing.T) {
	for _, c := range []struct {
		on   byte
		room int
	}{{0, 1}, {1, api.MaxFifo}} {
		for n := range c.room + 4 {
			u := New()
			outs(t, u, 2, c.on)
			bytes := count(100, n)
			pushes(u, bytes...)
			there, lost := byte(0), byte(0)
			if n > 0 {
				there = 1
			}
			if n > c.room {
				lost = 2
			}
			reads(t, u, 5, 96+there+lost, 96+there, 96+there)
			reads(t, u, 0, bytes[:min(n, c.room)]...)
			reads(t, u, 5, 96)
			reads(t, u, 0, 0, 0)
			reads(t, u, 5, 96)
		}
	}
}

// P13.4: a byte that is read leaves room for just one; those that are lost are not told later.
func TestRoomAgain(t *testing.T) {
	u := New()
	outs(t, u, 2, 1)
	pushes(u, count(1, 16)...)
	reads(t, u, 0, 1)
	pushes(u, 17)
	reads(t, u, 5, 97)
	pushes(u, 18)
	reads(t, u, 5, 99, 97)
	reads(t, u, 0, count(2, 16)...)
	reads(t, u, 0, 0)

	u = New()
	for b := range 50 {
		pushes(u, byte(b), 200)
		reads(t, u, 5, 99, 97)
		reads(t, u, 0, byte(b), 0)
	}
}

// P13.3: what was lost is told once, by register 5 alone, and stays till then, though room be made.
func TestLostOnce(t *testing.T) {
	u := New()
	pushes(u, 1, 2, 3)
	for reg := range registers {
		if reg != 5 {
			u.In(reg)
		}
	}
	outs(t, u, 5, 0, 3, 128, 3, 0, 1, 15, 1, 0)
	pushes(u, 4)
	reads(t, u, 0, 4)
	reads(t, u, 5, 98, 96)
	pushes(u, 5, 6)
	reads(t, u, 5, 99, 97)
}

// P13.3: reading with nothing there tells 0, and takes nothing of what comes then; a byte of 0 is one.
func TestNothingThere(t *testing.T) {
	for on := range byte(2) {
		u := New()
		outs(t, u, 2, on)
		reads(t, u, 0, 0, 0, 0)
		pushes(u, 9)
		reads(t, u, 0, 9, 0)
		pushes(u, 0)
		reads(t, u, 5, 97)
		reads(t, u, 0, 0)
		reads(t, u, 5, 96)
	}
}

// P13.3, P13.4: register 2 and the line by what is there, to be told and wanted. 4 goes ahead of 2, and takes nothing from it; 2 is told once.
func TestCauses(t *testing.T) {
	for wanted := range 16 {
		for state := range 8 {
			came, sends, on := state&1 != 0, state&2 != 0, state&4 != 0
			u := New()
			more := byte(0)
			if on {
				outs(t, u, 2, 1)
				more = 192
			}
			outs(t, u, 1, byte(wanted))
			if wanted&2 != 0 {
				reads(t, u, 2, 2+more)
			}
			if came {
				u.Push(9)
			}
			if sends {
				outs(t, u, 0, 65)
			}
			one, two := came && wanted&1 != 0, sends && wanted&2 != 0
			lineIs(t, u, one || two)
			if one {
				reads(t, u, 2, 4+more, 4+more)
				lineIs(t, u, true)
				reads(t, u, 0, 9)
				lineIs(t, u, two)
			}
			if two {
				reads(t, u, 2, 2+more)
				lineIs(t, u, false)
			}
			reads(t, u, 2, 1+more, 1+more)
			lineIs(t, u, false)
		}
	}
}

// P13.3: that all is sent is told though a byte came behind it, once that is read or no more wanted.
func TestSentBehindCame(t *testing.T) {
	u := New()
	outs(t, u, 1, 3)
	u.Push(1)
	reads(t, u, 2, 4, 4)
	outs(t, u, 1, 2)
	reads(t, u, 2, 2, 1)
	outs(t, u, 1, 3)
	reads(t, u, 2, 4)
	reads(t, u, 0, 1)
	reads(t, u, 2, 1)
}

// P13.2: bit 1 wanted, that was not wanted ahead, that was, and that was taken away in between; the other bits say nothing.
func TestWantSent(t *testing.T) {
	u := New()
	outs(t, u, 1, 13)
	reads(t, u, 2, 1)
	lineIs(t, u, false)
	outs(t, u, 1, 2)
	lineIs(t, u, true)
	reads(t, u, 2, 2, 1)
	outs(t, u, 1, 2, 1, 15)
	lineIs(t, u, false)
	reads(t, u, 2, 1)
	outs(t, u, 1, 13)
	lineIs(t, u, false)
	reads(t, u, 2, 1)
	outs(t, u, 1, 3)
	lineIs(t, u, true)
	reads(t, u, 2, 2, 1)
	outs(t, u, 1, 0, 1, 2, 1, 0)
	lineIs(t, u, false)
	reads(t, u, 2, 1)
	outs(t, u, 1, 2)
	reads(t, u, 2, 2, 1)
}

// P13.2, P13.3: a byte that is sent is to be told of, wanted or not, till register 2 tells it. Sent is no such telling.
func TestSentToTell(t *testing.T) {
	u := New()
	outs(t, u, 1, 2)
	reads(t, u, 2, 2, 1)
	outs(t, u, 0, 65)
	tells(t, u, 65)
	lineIs(t, u, true)
	reads(t, u, 5, 96)
	lineIs(t, u, true)
	reads(t, u, 2, 2, 1)
	outs(t, u, 0, 66, 0, 67)
	reads(t, u, 2, 2, 1)
	lineIs(t, u, false)
	tells(t, u, 66, 67)
}

// P13.4: the line is asked as often as one likes; register 2 read in no cause of its own tells nothing as told.
func TestLineTakesNothing(t *testing.T) {
	u := New()
	outs(t, u, 2, 1)
	pushes(u, count(0, 17)...)
	outs(t, u, 0, 65)
	reads(t, u, 2, 193, 193)
	outs(t, u, 1, 1)
	for range 3 {
		lineIs(t, u, true)
	}
	reads(t, u, 2, 196)
	outs(t, u, 1, 2)
	for range 3 {
		lineIs(t, u, true)
	}
	reads(t, u, 2, 194, 193)
	reads(t, u, 5, 99)
	tells(t, u, 65)
}

// P13.4, P13.5: Sent with nothing, with some, asked twice, with bytes sent in between, and with every byte.
func TestSent(t *testing.T) {
	u := New()
	tells(t, u)
	tells(t, u)
	for round := range 5 {
		want := count(byte(round*50), round*60)
		for _, b := range want {
			outs(t, u, 0, b)
		}
		tells(t, u, want...)
		tells(t, u)
	}
	for b := range 256 {
		outs(t, u, 0, byte(b))
		tells(t, u, byte(b))
	}
	tells(t, u)
}

// R4: what Sent told is the caller's, spare room too.
func TestSentIsNew(t *testing.T) {
	for n := range 70 {
		u := New()
		for _, b := range count(1, n) {
			outs(t, u, 0, b)
		}
		first := u.Sent()
		room := first[:cap(first)]
		for i := range room {
			room[i] = 99
		}
		outs(t, u, 0, 7, 0, 8)
		for i := range room {
			if room[i] != 99 {
				t.Fatalf("%d bytes: what was told changed at %d", n, i)
			}
			room[i] = 98
		}
		tells(t, u, 7, 8)
	}
}

// P13.5: what comes is read in its order and what is sent told in its order, each once, through several rounds, whatever goes on beside.
func TestOrder(t *testing.T) {
	draw := numbers(5)
	u := New()
	outs(t, u, 2, 1)
	var came, read, sent, told []byte
	waiting := 0
	for n := range 20000 {
		b := byte(n*7 + n/256)
		switch draw(6) {
		case 0, 1:
			if waiting < api.MaxFifo {
				u.Push(b)
				came = append(came, b)
				waiting++
			}
		case 2:
			if waiting > 0 {
				v, _ := u.In(0)
				read = append(read, v)
				waiting--
			}
		case 3:
			outs(t, u, 0, b)
			sent = append(sent, b)
		case 4:
			if draw(10) == 0 {
				told = append(told, u.Sent()...)
			}
		case 5:
			outs(t, u, 3, 128, 0, b, 3, 0, 2, 1, 1, b)
			u.In(2)
			u.In(5)
		}
	}
	for range waiting {
		v, _ := u.In(0)
		read = append(read, v)
	}
	told = append(told, u.Sent()...)
	if !slices.Equal(came, read) {
		t.Error("what was read is not what came")
	}
	if !slices.Equal(sent, told) {
		t.Error("what was told is not what was sent")
	}
	reads(t, u, 5, 96)
}

// P13.4: a byte comes whatever the latch and line control say.
func TestPushUnderLatch(t *testing.T) {
	u := New()
	outs(t, u, 3, 255)
	pushes(u, 4, 5)
	reads(t, u, 5, 99)
	reads(t, u, 0, 0)
	outs(t, u, 3, 0)
	reads(t, u, 0, 4, 0)
}

// R1: a nil port.
func TestNil(t *testing.T) {
	var u *Uart
	for _, reg := range []int{-1, 0, 1, 2, 3, 4, 5, 6, 7, 8, math.MinInt, math.MaxInt} {
		for _, v := range []byte{0, 1, 128, 255} {
			if err := u.Out(reg, v); err != api.ErrArg {
				t.Errorf("Out(%d, %d): %d", reg, v, err)
			}
		}
		if v, err := u.In(reg); v != 0 || err != api.ErrArg {
			t.Errorf("In(%d): %d, %d", reg, v, err)
		}
	}
	u.Push(1)
	tells(t, u)
	lineIs(t, u, false)
}

// R1: one that New did not make is like one that it made.
func TestHandMade(t *testing.T) {
	for seed := range uint64(20) {
		b := &bench{t, &Uart{}, &model{}}
		draw := numbers(seed)
		for range 50 {
			b.doSomething(draw)
		}
		b.end()
	}
	(&bench{t, new(Uart), &model{}}).end()
}

// numbers draws whole numbers below another one, always the same ones of a seed.
func numbers(seed uint64) func(below int) int {
	return func(below int) int {
		seed = seed*6364136223846793005 + 1442695040888963407
		return int(seed>>33) % below
	}
}

// doSomething says one thing to both.
func (b *bench) doSomething(draw func(int) int) {
	b.t.Helper()
	switch draw(10) {
	case 0, 1:
		b.out(draw(10)-1, byte(draw(256)))
	case 2:
		b.out(draw(3), byte(draw(4)))
	case 3:
		b.out(3, byte(draw(8)/7*128))
	case 4, 5:
		b.in(draw(10) - 1)
	case 6:
		b.in([]int{0, 2, 5}[draw(3)])
	case 7:
		b.push(byte(draw(256)))
	case 8:
		b.push(count(byte(draw(256)), draw(20))...)
	case 9:
		b.sent()
	}
}

// P13.1 to P13.5: calls of all kinds, in any order.
func TestDrawnCalls(t *testing.T) {
	for seed := range uint64(3000) {
		b := newBench(t)
		draw := numbers(seed)
		for range 20 + draw(200) {
			b.doSomething(draw)
		}
		b.end()
	}
}

// R5: the same calls are answered the same again.
func TestSameAgain(t *testing.T) {
	var runs [2][]byte
	for n := range runs {
		u := New()
		draw := numbers(77)
		for range 3000 {
			u.Push(byte(draw(256)))
			u.Out(draw(8), byte(draw(256)))
			v, _ := u.In(draw(8))
			runs[n] = append(runs[n], v)
			if draw(5) == 0 {
				runs[n] = append(runs[n], u.Sent()...)
			}
		}
	}
	if !slices.Equal(runs[0], runs[1]) {
		t.Error("answered otherwise the second time")
	}
}
