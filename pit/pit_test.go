package pit

import (
	"math"
	"testing"

	"drawloom/api"
)

// counterModel is a counter that is told of each step that passes, and reckons no remainders.
type counterModel struct {
	mode         int
	lower, upper bool // which bytes are written and read
	length       int
	stands       bool
	left         int    // modes 2 and 3: steps till it begins anew; mode 0: below 0 behind its end
	written      []byte // the first byte, while the second one is wanted
	next         int    // 0: the lower byte is read next, 1: the upper one
	held         []int
}

// model is three of them.
type model struct {
	counters [3]counterModel
}

func newModel() *model {
	m := &model{}
	for n := range m.counters {
		m.counters[n] = counterModel{mode: 3, lower: true, upper: true, length: 65536, left: 65536}
	}
	return m
}

// pass lets steps pass, one by one.
func (m *model) pass(steps int) {
	for range steps {
		for n := range m.counters {
			c := &m.counters[n]
			if c.stands {
				continue
			}
			c.left--
			if c.left == 0 && (c.mode == 2 || c.mode == 3) {
				c.left = c.length
			}
		}
	}
}

func (m *model) out(port int, v byte) api.Errno {
	switch port {
	case 0, 1, 2:
		m.counters[port].write(v)
	case 3:
		if v < 0xC0 {
			m.counters[v/64].command(int(v) % 64)
		}
	default:
		return api.ErrArg
	}
	return api.OK
}

func (c *counterModel) command(v int) {
	if v < 16 {
		if c.held == nil {
			c.held = []int{c.value()}
		}
		return
	}
	c.lower, c.upper = v/16%2 == 1, v/32%2 == 1
	c.held, c.written = nil, nil
	c.next = 0
	if !c.lower {
		c.next = 1
	}
	c.mode = [8]int{0, 1, 2, 3, 4, 5, 2, 3}[v/2%8]
	c.stands = true
}

func (c *counterModel) write(v byte) {
	length := 0
	switch {
	case c.lower && c.upper:
		c.written = append(c.written, v)
		if len(c.written) < 2 {
			return
		}
		length = int(c.written[0]) + 256*int(c.written[1])
		c.written = nil
	case c.lower:
		length = int(v)
	default:
		length = 256 * int(v)
	}
	if length == 0 {
		length = 65536
	}
	c.length, c.left, c.stands = length, length, false
}

// value is P12.4's, of 16 bits.
func (c *counterModel) value() int {
	v := c.length
	if !c.stands && (c.mode == 0 || c.mode == 2 || c.mode == 3) {
		v = c.left
	}
	for v < 0 {
		v += 65536
	}
	return v % 65536
}

func (m *model) in(port int) (byte, api.Errno) {
	if port == 3 {
		return 255, api.OK
	}
	if port < 0 || port > 3 {
		return 0, api.ErrArg
	}
	c := &m.counters[port]
	v := c.value()
	if c.held != nil {
		v = c.held[0]
	}
	pair := [2]int{v % 256, v / 256}
	told := pair[c.next]
	if c.next == 1 || !c.upper {
		c.held = nil
	}
	if c.lower && c.upper {
		c.next = 1 - c.next
	}
	return byte(told), api.OK
}

// line is P12.5's: in mode 3 the longer half of an odd length comes first.
func (m *model) line() bool {
	c := &m.counters[0]
	if c.stands {
		return c.mode != 0
	}
	switch c.mode {
	case 0:
		return c.left <= 0
	case 2:
		return c.left != 1
	case 3:
		return c.left > c.length/2
	}
	return true
}

// bench says the same to both, and holds their answers against each other.
type bench struct {
	t   *testing.T
	p   *Pit
	m   *model
	now uint64
}

func newBench(t *testing.T) *bench {
	return &bench{t: t, p: New(), m: newModel()}
}

func (b *bench) pass(steps int) {
	b.now += uint64(steps)
	b.m.pass(steps)
}

func (b *bench) out(port int, v byte) {
	b.t.Helper()
	if got, want := b.p.Out(port, v, b.now), b.m.out(port, v); got != want {
		b.t.Fatalf("Out(%d, %#x, %d): %v, not %v", port, v, b.now, got, want)
	}
}

func (b *bench) in(port int) {
	b.t.Helper()
	got, e := b.p.In(port, b.now)
	want, f := b.m.in(port)
	if got != want || e != f {
		b.t.Fatalf("In(%d, %d): %d %v, not %d %v", port, b.now, got, e, want, f)
	}
}

func (b *bench) line() {
	b.t.Helper()
	if got, want := b.p.Line(b.now), b.m.line(); got != want {
		b.t.Fatalf("Line(%d): %v, not %v", b.now, got, want)
	}
}

// look reads all that can be read, of copies: so it takes nothing away. The last reads of a counter show its value where one was held.
func (b *bench) look() {
	b.t.Helper()
	p, m := *b.p, *b.m
	c := &bench{t: b.t, p: &p, m: &m, now: b.now}
	c.line()
	for port := range 3 {
		for range 5 {
			c.in(port)
		}
	}
}

// lookAt looks when so many steps have passed from now on: numbers that don't fall.
func (b *bench) lookAt(steps ...int) {
	b.t.Helper()
	at := 0
	for _, s := range steps {
		b.pass(s - at)
		at = s
		b.look()
	}
}

// bounds are numbers of steps at the edges of a length's rounds, the first ones and later ones.
func bounds(length int) []int {
	marks := map[int]int{}
	half := (length + 1) / 2
	for _, round := range []int{0, 1, 2, 5} {
		for _, edge := range []int{0, half, length} {
			for near := -2; near <= 2; near++ {
				if s := round*length + edge + near; s >= 0 {
					marks[s] = 1
				}
			}
		}
	}
	var out []int
	for s := 0; len(out) < len(marks); s++ {
		if marks[s] == 1 {
			out = append(out, s)
		}
	}
	return out
}

// commandOf is a command's byte.
func commandOf(counter, bytes, mode int) byte { return byte(counter*64 + bytes*16 + mode*2) }

// set lays a length, by as many bytes as are wanted.
func (b *bench) set(counter, bytes int, length uint16) {
	b.t.Helper()
	if bytes&1 != 0 {
		b.out(counter, byte(length))
	}
	if bytes&2 != 0 {
		b.out(counter, byte(length>>8))
	}
}

// said does calls of Out that may not fail: ports, bytes and times.
func said(t *testing.T, p *Pit, calls ...[3]uint64) {
	t.Helper()
	for _, c := range calls {
		if e := p.Out(int(c[0]), byte(c[1]), c[2]); e != api.OK {
			t.Fatalf("Out(%d, %#x, %d): %v", c[0], c[1], c[2], e)
		}
	}
}

// reads holds what a port tells at a time, read after read, against bytes.
func reads(t *testing.T, p *Pit, port int, now uint64, want ...byte) {
	t.Helper()
	for n, w := range want {
		if v, e := p.In(port, now); v != w || e != api.OK {
			t.Errorf("In(%d, %d), read %d: %#x %v, not %#x", port, now, n, v, e, w)
		}
	}
}

func lines(t *testing.T, p *Pit, want bool, times ...uint64) {
	t.Helper()
	for _, now := range times {
		if p.Line(now) != want {
			t.Errorf("Line(%d): %v", now, !want)
		}
	}
}

// P12.2 to P12.5: the chapter's examples, the times of the last one behind the others'.
func TestExamples(t *testing.T) {
	p := New()
	said(t, p, [3]uint64{3, 0x34, 0}, [3]uint64{0, 10, 0}, [3]uint64{0, 0, 5})
	lines(t, p, true, 13)
	lines(t, p, false, 14)
	lines(t, p, true, 15)
	said(t, p, [3]uint64{3, 0, 16})
	reads(t, p, 0, 99, 9, 0)
	said(t, p, [3]uint64{3, 0x10, 120})
	lines(t, p, false, 120)
	said(t, p, [3]uint64{0, 3, 120})
	lines(t, p, false, 122)
	lines(t, p, true, 123)

	// As they are written: a time that falls makes nothing else of them.
	q := New()
	said(t, q, [3]uint64{3, 0x10, 20})
	lines(t, q, false, 20)
	said(t, q, [3]uint64{0, 3, 20})
	lines(t, q, false, 22)
	lines(t, q, true, 23)
}

// P12.1: a new one counts in mode 3, from 65536, since 0, and both bytes of it are read, the lower one first.
func TestNew(t *testing.T) {
	rows := []struct {
		now          uint64
		lower, upper byte
		line         bool
	}{
		{0, 0, 0, true},
		{1, 0xFF, 0xFF, true},
		{2, 0xFE, 0xFF, true},
		{256, 0, 0xFF, true},
		{32767, 1, 0x80, true},
		{32768, 0, 0x80, false},
		{32769, 0xFF, 0x7F, false},
		{65535, 1, 0, false},
		{65536, 0, 0, true},
		{65537, 0xFF, 0xFF, true},
		{1<<40 + 3, 0xFD, 0xFF, true},
		{math.MaxUint64, 1, 0, false},
	}
	p := New()
	for _, r := range rows {
		for port := range 3 {
			reads(t, p, port, r.now, r.lower, r.upper)
		}
		reads(t, p, 3, r.now, 255, 255)
		lines(t, p, r.line, r.now)
	}
	for n := range 3 {
		b := newBench(t)
		b.out(n, 5) // no byte is wanted: this is the first one
		b.lookAt(0, 1, 9)
		b.out(n, 1)
		b.lookAt(0, 1, 260, 261, 262)
	}
}

// P12.1: two that are new have nothing in common.
func TestNewAlone(t *testing.T) {
	p, q := New(), New()
	said(t, p, [3]uint64{3, 0x30, 0}, [3]uint64{0, 7, 0}, [3]uint64{3, 0x40, 0})
	lines(t, q, true, 1)
	reads(t, q, 0, 1, 0xFF, 0xFF)
	reads(t, q, 1, 1, 0xFF, 0xFF)
}

// P12.1: a port that is none is ErrArg, and nothing is changed.
func TestPorts(t *testing.T) {
	for _, port := range []int{-1, 4, -2, 5, 64, 256, 259, -4, math.MinInt, math.MaxInt, 1 << 32, -1 << 32} {
		b := newBench(t)
		b.set(0, 3, 700)
		b.out(3, commandOf(1, 1, 2))
		b.out(3, commandOf(2, 0, 0))
		b.out(0, 9)
		b.pass(3)
		was := *b.p
		for _, v := range []byte{0, 1, 0x30, 0x36, 0x40, 0xFF} {
			b.out(port, v)
			b.in(port)
		}
		if e := b.p.Out(port, 0x30, b.now); e != api.ErrArg {
			t.Errorf("Out(%d): %v", port, e)
		}
		if v, e := b.p.In(port, b.now); v != 0 || e != api.ErrArg {
			t.Errorf("In(%d): %d, %v", port, v, e)
		}
		if *b.p != was {
			t.Errorf("port %d changed something", port)
		}
		b.look()
	}
}

// P12.4: the command is read as 255, whatever was written there, and that changes nothing.
func TestReadCommand(t *testing.T) {
	for v := range 256 {
		p := New()
		said(t, p, [3]uint64{3, uint64(v), 4})
		was := *p
		reads(t, p, 3, 5, 255, 255, 255)
		if *p != was {
			t.Errorf("%#x: reading the command changed something", v)
		}
	}
}

// P12.2: every command, of counters that go on, wait for a byte, hold a value and were read by half; those that it does not mean stay as they were.
func TestEveryCommand(t *testing.T) {
	for v := range 256 {
		for state := range 16 {
			b := newBench(t)
			for n := range 3 {
				b.set(n, 3, uint16(1000+300*n))
				b.pass(7)
				if state&1 != 0 {
					b.out(n, 0xAB)
				}
				if state&2 != 0 {
					b.out(3, commandOf(n, 0, 0))
				}
				if state&4 != 0 {
					b.in(n)
				}
				if state&8 != 0 {
					b.out(3, commandOf(n, 0, 0))
				}
			}
			b.pass(30)
			b.out(3, byte(v))
			b.lookAt(0, 1, 40)
			for n := range 3 {
				b.out(n, 0x12)
			}
			b.lookAt(0, 1, 40)
			for n := range 3 {
				b.out(n, 0x03)
			}
			b.lookAt(0, 1, 40)
		}
	}
}

// P12.2: the command for counter 3 changes nothing, be it a holding or a mode.
func TestNoCounter(t *testing.T) {
	for v := 0xC0; v <= 0xFF; v++ {
		p := New()
		said(t, p, [3]uint64{0, 9, 0}, [3]uint64{3, 0x40, 0}, [3]uint64{3, 0x90, 0})
		was := *p
		said(t, p, [3]uint64{3, uint64(v), 6})
		if *p != was {
			t.Errorf("%#x changed something", v)
		}
	}
}

// P12.2: a holding looks at bits 4 to 7 alone: its mode bits change none.
func TestHoldLooksAtNoMode(t *testing.T) {
	for low := range 16 {
		p := New()
		said(t, p, [3]uint64{3, 0x30, 0}, [3]uint64{0, 20, 0}, [3]uint64{0, 0, 0})
		said(t, p, [3]uint64{3, uint64(low), 5})
		reads(t, p, 0, 9, 15, 0, 11, 0)
		lines(t, p, false, 19)
		lines(t, p, true, 20, 45)
	}
}

// P12.2, P12.4, P12.6: a value that is held stays while the time goes on, and is not held anew; behind its upper byte the value is read again.
func TestHold(t *testing.T) {
	for n := range 3 {
		p := New()
		at := uint64(n * 64)
		port := uint64(n)
		said(t, p, [3]uint64{3, at + 0x34, 0}, [3]uint64{port, 0x00, 0}, [3]uint64{port, 0x10, 0})
		said(t, p, [3]uint64{3, at, 1})
		said(t, p, [3]uint64{3, at, 0x200}) // one is held
		reads(t, p, n, 0x300, 0xFF)
		said(t, p, [3]uint64{3, at, 0x400}) // one is held still
		reads(t, p, n, 0x500, 0x0F)
		reads(t, p, n, 0x600, 0x00, 0x0A)
		said(t, p, [3]uint64{3, at, 0x700})
		reads(t, p, n, 0x801, 0x00, 0x09, 0xFF, 0x07)
	}
}

// P12.4: of both bytes the lower one was read ahead of the holding: the held value's upper byte is read, and it is held no more.
func TestHoldBetween(t *testing.T) {
	p := New()
	said(t, p, [3]uint64{3, 0x34, 0}, [3]uint64{0, 0x00, 0}, [3]uint64{0, 0x20, 0})
	reads(t, p, 0, 1, 0xFF)
	said(t, p, [3]uint64{3, 0, 2})
	reads(t, p, 0, 0x1000, 0x1F)
	reads(t, p, 0, 0x1005, 0xFB, 0x0F)
	// Between the bytes of a held value nothing is held anew.
	said(t, p, [3]uint64{3, 0, 0x1010})
	reads(t, p, 0, 0x1011, 0xF0)
	said(t, p, [3]uint64{3, 0, 0x1F01})
	reads(t, p, 0, 0x1F02, 0x0F, 0xFE, 0x00)
}

// P12.4: of one byte alone each read ends the holding.
func TestHoldOneByte(t *testing.T) {
	p := New()
	said(t, p, [3]uint64{3, 0x14, 0}, [3]uint64{0, 200, 0}, [3]uint64{3, 0, 10})
	reads(t, p, 0, 50, 190, 150, 150)
	said(t, p, [3]uint64{3, 0x64, 60}, [3]uint64{1, 0x20, 60}, [3]uint64{3, 0x40, 60})
	reads(t, p, 1, 61, 0x20, 0x1F, 0x1F)
	said(t, p, [3]uint64{3, 0x40, 60 + 0x100}, [3]uint64{3, 0x40, 60 + 0x1000})
	reads(t, p, 1, 61+0x1000, 0x1F, 0x0F)
}

// P12.2, P12.4: of a counter that stands the length is held, and stays held when it is written and begins.
func TestHoldStanding(t *testing.T) {
	p := New()
	said(t, p, [3]uint64{3, 0x34, 0}, [3]uint64{0, 0x34, 0}, [3]uint64{0, 0x12, 0})
	said(t, p, [3]uint64{3, 0x34, 5}, [3]uint64{3, 0, 8})
	said(t, p, [3]uint64{0, 0x78, 9}, [3]uint64{0, 0x56, 9})
	reads(t, p, 0, 10, 0x34, 0x12, 0x77, 0x56)
}

// P12.2 to P12.5: each way of writing and reading with each mode, of each counter: as it stands, as it counts, and as it begins anew in the midst; held and not.
func TestWaysAndModes(t *testing.T) {
	for n := range 3 {
		for bytes := 1; bytes <= 3; bytes++ {
			for mode := range 8 {
				for low := range 2 { // bit 0 of a command says nothing
					b := newBench(t)
					b.pass(11)
					b.look()
					b.out(3, commandOf(n, bytes, mode)|byte(low))
					b.lookAt(0, 1, 5)
					b.set(n, bytes, 0x0305)
					b.lookAt(0, 1, 2, 4, 5, 6, 100)
					b.out(3, commandOf(n, 0, 0))
					b.lookAt(0, 1, 300)
					b.in(n)
					b.look()
					b.set(n, bytes, 0x0204)
					b.lookAt(0, 1, 3, 4, 5, 0x104, 0x204, 0x205)
					b.out(3, commandOf(n, bytes, mode))
					b.lookAt(0, 1, 0x300)
				}
			}
		}
	}
}

// P12.2: a command takes away what is held, the byte that is wanted, and that the upper byte was to be read next.
func TestCommandTakesAway(t *testing.T) {
	// A held value: what is read is the value that stands, not what was held.
	p := New()
	said(t, p, [3]uint64{0, 0x11, 0}, [3]uint64{0, 0x22, 0}, [3]uint64{3, 0, 3}, [3]uint64{3, 0x36, 4})
	reads(t, p, 0, 5, 0x11, 0x22)
	said(t, p, [3]uint64{0, 0x55, 6}, [3]uint64{0, 0x66, 6})
	reads(t, p, 0, 8, 0x53, 0x66)

	// A byte that is wanted: the next one is a first one again.
	p = New()
	said(t, p, [3]uint64{0, 0x11, 0}, [3]uint64{3, 0x34, 1}, [3]uint64{0, 0x22, 2})
	reads(t, p, 0, 3, 0, 0)
	said(t, p, [3]uint64{0, 0x33, 4})
	reads(t, p, 0, 4, 0x22, 0x33)

	// Which byte is read next.
	p = New()
	said(t, p, [3]uint64{0, 0x11, 0}, [3]uint64{0, 0x22, 0})
	reads(t, p, 0, 0, 0x11)
	said(t, p, [3]uint64{3, 0x30, 1})
	reads(t, p, 0, 1, 0x11, 0x22, 0x11)
	said(t, p, [3]uint64{3, 0x20, 1})
	reads(t, p, 0, 1, 0x22, 0x22)
	said(t, p, [3]uint64{3, 0x10, 1})
	reads(t, p, 0, 1, 0x11, 0x11)
	said(t, p, [3]uint64{3, 0x30, 1})
	reads(t, p, 0, 1, 0x11, 0x22, 0x11)

	// From the upper byte alone to both.
	said(t, p, [3]uint64{3, 0x20, 1}, [3]uint64{3, 0x30, 1})
	reads(t, p, 0, 1, 0x11, 0x22)
}

// P12.2: which byte is read next is not changed by what is written, nor which is written next by what is read.
func TestReadAndWriteApart(t *testing.T) {
	p := New()
	said(t, p, [3]uint64{3, 0x38, 0}, [3]uint64{0, 0x11, 0}, [3]uint64{0, 0x22, 0})
	reads(t, p, 0, 0, 0x11)
	said(t, p, [3]uint64{0, 0x33, 0})
	reads(t, p, 0, 0, 0x22, 0x11)
	said(t, p, [3]uint64{0, 0x44, 0})
	reads(t, p, 0, 0, 0x44, 0x33)
}

// P12.3: a first byte lets the counter go on as it was, and is looked at no earlier than the second one comes; then it begins anew.
func TestFirstByteWaits(t *testing.T) {
	for mode := range 8 {
		b := newBench(t)
		b.out(3, commandOf(0, 3, mode))
		b.set(0, 3, 9)
		b.lookAt(bounds(9)...)
		b.out(0, 6)
		b.lookAt(bounds(9)...)
		b.out(0, 1)
		b.lookAt(bounds(0x106)...)
		b.out(0, 2)
		b.look()
		b.out(3, commandOf(0, 0, 0)) // a holding takes no wanted byte away
		b.look()
		b.out(0, 0)
		b.lookAt(0, 1, 2, 3, 4)
	}
}

// P12.2, P12.3: a counter that stands goes on standing behind the first byte.
func TestFirstByteStands(t *testing.T) {
	for mode := range 8 {
		b := newBench(t)
		b.out(3, commandOf(0, 3, mode))
		b.lookAt(0, 1, 70000)
		b.out(0, 2)
		b.lookAt(0, 1, 2, 3, 70000)
		b.out(0, 0)
		b.lookAt(bounds(2)...)
	}
}

// P12.3 to P12.6: lengths and their edges, in every mode, by every way of writing that can tell them; then standing with that length, and another one behind it.
func TestLengths(t *testing.T) {
	rows := []struct {
		bytes  int
		length int
	}{
		{3, 65536}, {1, 65536}, {2, 65536},
		{3, 1}, {1, 1}, {3, 2}, {1, 2}, {3, 3}, {1, 3}, {3, 4}, {1, 4}, {3, 5}, {3, 10}, {1, 11},
		{3, 255}, {1, 255}, {1, 254}, {3, 256}, {2, 256}, {3, 257}, {2, 512}, {3, 1000}, {3, 1001},
		{3, 32767}, {3, 32768}, {2, 32768}, {3, 32769}, {2, 65280}, {3, 65535}, {3, 65534},
	}
	for _, r := range rows {
		for mode := range 8 {
			b := newBench(t)
			b.out(3, commandOf(0, r.bytes, mode))
			b.look()
			b.set(0, r.bytes, uint16(r.length))
			b.lookAt(bounds(r.length)...)
			b.set(0, r.bytes, uint16(r.length)) // it begins anew, in the midst of a round
			b.lookAt(0, 1, 2)
			b.out(3, commandOf(0, 3, mode))
			b.lookAt(0, r.length-1, r.length, r.length+1)
			b.set(0, 3, 3)
			b.lookAt(bounds(3)...)
		}
	}
}

// P12.4, P12.5, by hand: what a counter of a length has come to, so many steps on, and its line. Lengths are written; 0 is 65536.
func TestValuesByHand(t *testing.T) {
	const far = 1 << 60
	rows := []struct {
		mode   int
		length uint16
		steps  uint64
		value  uint16
		line   bool
	}{
		{0, 5, 0, 5, false}, {0, 5, 4, 1, false}, {0, 5, 5, 0, true}, {0, 5, 6, 65535, true},
		{0, 5, 65540, 1, true}, {0, 5, 65541, 0, true}, {0, 5, 65542, 65535, true}, {0, 5, far, 5, true}, {0, 5, far + 6, 65535, true},
		{0, 1, 0, 1, false}, {0, 1, 1, 0, true}, {0, 1, 2, 65535, true},
		{0, 0, 0, 0, false}, {0, 0, 1, 65535, false}, {0, 0, 65535, 1, false}, {0, 0, 65536, 0, true}, {0, 0, 65537, 65535, true},
		{0, 65535, 65534, 1, false}, {0, 65535, 65535, 0, true}, {0, 65535, 65536, 65535, true},

		{2, 1, 0, 1, false}, {2, 1, 1, 1, false}, {2, 1, 7, 1, false}, {2, 1, far, 1, false},
		{2, 2, 0, 2, true}, {2, 2, 1, 1, false}, {2, 2, 2, 2, true}, {2, 2, far + 1, 1, false},
		{2, 5, 0, 5, true}, {2, 5, 3, 2, true}, {2, 5, 4, 1, false}, {2, 5, 5, 5, true}, {2, 5, 9, 1, false}, {2, 5, 504, 1, false}, {2, 5, 505, 5, true},
		{2, 0, 0, 0, true}, {2, 0, 1, 65535, true}, {2, 0, 65534, 2, true}, {2, 0, 65535, 1, false}, {2, 0, 65536, 0, true}, {2, 0, far - 1, 1, false},

		{3, 1, 0, 1, true}, {3, 1, 1, 1, true}, {3, 1, 9, 1, true},
		{3, 2, 0, 2, true}, {3, 2, 1, 1, false}, {3, 2, 2, 2, true}, {3, 2, far, 2, true},
		{3, 3, 0, 3, true}, {3, 3, 1, 2, true}, {3, 3, 2, 1, false}, {3, 3, 3, 3, true},
		{3, 4, 1, 3, true}, {3, 4, 2, 2, false}, {3, 4, 3, 1, false}, {3, 4, 4, 4, true},
		{3, 7, 3, 4, true}, {3, 7, 4, 3, false}, {3, 7, 6, 1, false}, {3, 7, 7, 7, true}, {3, 7, 73, 4, true}, {3, 7, 74, 3, false},
		{3, 0, 32767, 32769, true}, {3, 0, 32768, 32768, false}, {3, 0, 65535, 1, false}, {3, 0, 65536, 0, true},
		{3, 65535, 32767, 32768, true}, {3, 65535, 32768, 32767, false}, {3, 65535, 65534, 1, false}, {3, 65535, 65535, 65535, true},

		{6, 5, 3, 2, true}, {6, 5, 4, 1, false}, {7, 7, 3, 4, true}, {7, 7, 4, 3, false},
		{1, 5, 0, 5, true}, {1, 5, 4, 5, true}, {1, 5, 5, 5, true}, {1, 0, 70000, 0, true},
		{4, 5, 0, 5, true}, {4, 5, 4, 5, true}, {4, 5, 5, 5, true}, {4, 1, far, 1, true},
		{5, 5, 0, 5, true}, {5, 5, 4, 5, true}, {5, 5, 5, 5, true}, {5, 1, far, 1, true},
	}
	for _, r := range rows {
		for _, began := range []uint64{0, 1, 12345, math.MaxUint64 - r.steps} {
			p := New()
			said(t, p, [3]uint64{3, uint64(commandOf(0, 3, r.mode)), began})
			said(t, p, [3]uint64{0, uint64(r.length % 256), began}, [3]uint64{0, uint64(r.length / 256), began})
			now := began + r.steps
			if p.Line(now) != r.line {
				t.Errorf("%+v, began at %d: the line is %v", r, began, !r.line)
			}
			reads(t, p, 0, now, byte(r.value%256), byte(r.value/256))
			said(t, p, [3]uint64{3, 0, now})
			reads(t, p, 0, math.MaxUint64, byte(r.value%256), byte(r.value/256))
		}
	}
}

// P12.4, P12.5: while it stands, a counter tells its last length, whatever the time, and its line hangs on the mode alone.
func TestStanding(t *testing.T) {
	for mode := range 8 {
		for _, length := range []uint16{0, 1, 2, 0x1234, 0xFFFF} {
			p := New()
			said(t, p, [3]uint64{3, 0x30, 0}, [3]uint64{0, uint64(length % 256), 0}, [3]uint64{0, uint64(length / 256), 0})
			said(t, p, [3]uint64{3, uint64(commandOf(0, 3, mode)), 40})
			for _, now := range []uint64{40, 41, 40 + uint64(length), 41 + uint64(length), 1 << 50, math.MaxUint64} {
				lines(t, p, mode != 0, now)
				reads(t, p, 0, now, byte(length%256), byte(length/256))
			}
		}
	}
}

// P12.4: a counter that was never written stands at 65536; read by one byte alone, the other one of its length counts still.
func TestStandingNew(t *testing.T) {
	p := New()
	said(t, p, [3]uint64{3, 0x30, 7}, [3]uint64{3, 0x60, 7}, [3]uint64{3, 0x90, 7})
	reads(t, p, 0, 9, 0, 0)
	reads(t, p, 1, 9, 0)
	reads(t, p, 2, 9, 0)
	said(t, p, [3]uint64{0, 0x34, 9}, [3]uint64{0, 0x12, 9}, [3]uint64{3, 0x10, 9})
	reads(t, p, 0, 10, 0x34, 0x34)
	said(t, p, [3]uint64{3, 0x20, 9})
	reads(t, p, 0, 10, 0x12, 0x12)
}

// P12.3: of one byte alone the other one is 0, not what it was.
func TestOneByteAlone(t *testing.T) {
	p := New()
	said(t, p, [3]uint64{3, 0x38, 0}, [3]uint64{0, 0x34, 0}, [3]uint64{0, 0x12, 0})
	said(t, p, [3]uint64{3, 0x18, 0}, [3]uint64{0, 0x56, 0}, [3]uint64{3, 0x38, 0})
	reads(t, p, 0, 0, 0x56, 0)
	said(t, p, [3]uint64{3, 0x28, 0}, [3]uint64{0, 0x78, 0}, [3]uint64{3, 0x38, 0})
	reads(t, p, 0, 0, 0, 0x78)
}

// P12.5: the line is the counter 0's: the others' modes and lengths, and what is read and held of them, change nothing of it, nor of each other.
func TestCountersApart(t *testing.T) {
	for n := range 3 {
		for mode := range 8 {
			b := newBench(t)
			for k := range 3 {
				b.out(3, commandOf(k, 3, 2+k%2))
				b.set(k, 3, uint16(20+k))
			}
			b.in(1)
			b.out(2, 8)
			b.pass(3)
			was := *b.p
			b.out(3, commandOf(n, 3, mode))
			b.out(n, 77)
			b.out(3, commandOf(n, 0, 0))
			b.in(n)
			b.in(n)
			for k := range 3 {
				if k != n && b.p.counters[k] != was.counters[k] {
					t.Errorf("counter %d changed %d", n, k)
				}
			}
			b.lookAt(bounds(20)...)
		}
	}
}

// P12.6: in modes 2 and 3 the line and the value come again after each length.
func TestComesAgain(t *testing.T) {
	for _, mode := range []int{2, 3, 6, 7} {
		for _, length := range []uint64{1, 2, 3, 10, 11, 255, 256, 4099, 65535, 65536} {
			p := New()
			said(t, p, [3]uint64{3, uint64(commandOf(0, 3, mode)), 17})
			said(t, p, [3]uint64{0, length % 256, 17}, [3]uint64{0, length / 256 % 256, 17})
			for steps := uint64(0); steps < length; steps += 1 + length/97 {
				lower, _ := p.In(0, 17+steps)
				upper, _ := p.In(0, 17+steps)
				line := p.Line(17 + steps)
				for _, round := range []uint64{1, 2, 3, 1000, 1 << 40} {
					now := 17 + steps + round*length
					reads(t, p, 0, now, lower, upper)
					lines(t, p, line, now)
				}
			}
		}
	}
}

// P12.6: what a held value reads as does not hang on the time, in any mode.
func TestHeldAtAllTimes(t *testing.T) {
	for mode := range 8 {
		for bytes := 1; bytes <= 3; bytes++ {
			for _, later := range []uint64{0, 1, 2, 999, 1 << 33, math.MaxUint64 - 60} {
				p := New()
				said(t, p, [3]uint64{3, uint64(commandOf(1, bytes, mode)), 0})
				said(t, p, [3]uint64{1, 0x22, 0}, [3]uint64{1, 0x11, 0}, [3]uint64{3, 0x40, 60})
				q := *p
				first, _ := p.In(1, 60)
				second := byte(0)
				if bytes == 3 {
					second, _ = p.In(1, 60)
				}
				reads(t, &q, 1, 60+later, first)
				if bytes == 3 {
					reads(t, &q, 1, 60+later, second)
				}
			}
		}
	}
}

// P12.3: one that begins near the greatest time counts as any other.
func TestLateTimes(t *testing.T) {
	const end = math.MaxUint64
	p := New()
	said(t, p, [3]uint64{3, 0x34, end - 9}, [3]uint64{0, 4, end - 9}, [3]uint64{0, 0, end - 8})
	lines(t, p, true, end-8, end-6, end-4, end-2, end)
	lines(t, p, false, end-5, end-1)
	reads(t, p, 0, end, 4, 0)
	said(t, p, [3]uint64{3, 0x10, end}, [3]uint64{0, 1, end})
	lines(t, p, false, end)
	reads(t, p, 0, end, 1)
}

// R1: times that fall are answered somehow; nothing panics.
func TestFallingTimes(t *testing.T) {
	for mode := range 8 {
		p := New()
		said(t, p, [3]uint64{3, uint64(commandOf(0, 3, mode)), 900}, [3]uint64{0, 7, 800}, [3]uint64{0, 0, 700})
		for _, now := range []uint64{699, 0, 1, math.MaxUint64, 5} {
			p.Line(now)
			p.In(0, now)
			said(t, p, [3]uint64{3, 0, now})
		}
	}
}

// R1: every call of a nil Pit: ErrArg where there is an Errno, ahead of all else, and zero values.
func TestNil(t *testing.T) {
	var p *Pit
	for _, port := range []int{-1, 0, 1, 2, 3, 4, math.MinInt, math.MaxInt} {
		if e := p.Out(port, 0x30, 5); e != api.ErrArg {
			t.Errorf("Out(%d): %v", port, e)
		}
		if v, e := p.In(port, 5); v != 0 || e != api.ErrArg {
			t.Errorf("In(%d): %d, %v", port, v, e)
		}
	}
	for _, now := range []uint64{0, 5, math.MaxUint64} {
		if p.Line(now) {
			t.Errorf("Line(%d)", now)
		}
	}
}

// R1: one that New did not make: no call panics, and what is said to it counts.
func TestHandMade(t *testing.T) {
	p := &Pit{}
	for _, now := range []uint64{0, 1, 65536, math.MaxUint64} {
		p.Line(now)
		for port := -1; port <= 4; port++ {
			p.In(port, now)
			if port != 3 {
				p.Out(port, 0, now)
			}
		}
		said(t, p, [3]uint64{3, 0, now})
	}
	p = &Pit{}
	said(t, p, [3]uint64{3, 0x34, 0}, [3]uint64{0, 2, 0}, [3]uint64{0, 0, 0})
	reads(t, p, 0, 1, 1, 0)
	lines(t, p, false, 1, 3)
	lines(t, p, true, 0, 2)
}

// numbers are such as seem to be drawn, the same each time.
func numbers(seed uint64) func(below int) int {
	x := seed
	return func(below int) int {
		x = x*6364136223846793005 + 1442695040888963407
		return int(x>>33) % below
	}
}

// doSomething says one thing to both, more often a thing that a program would say.
func (b *bench) doSomething(draw func(int) int) {
	b.t.Helper()
	n := draw(3)
	switch draw(12) {
	case 0:
		b.out(3, commandOf(n, 1+draw(3), draw(8))|byte(draw(2)))
	case 1:
		b.out(3, commandOf(n, 0, draw(8)))
	case 2:
		b.out(3, byte(draw(256)))
	case 3, 4, 5:
		b.out(n, []byte{0, 1, 2, 3, byte(draw(20)), byte(draw(256))}[draw(6)])
	case 6, 7, 8:
		b.in(n)
	case 9:
		b.out(draw(9)-3, byte(draw(256)))
		b.in(draw(9) - 3)
	case 10:
		b.pass(draw(8))
	case 11:
		b.pass([]int{1, 50, 256, draw(3000)}[draw(4)])
	}
}

// P12.1 to P12.6: rows of calls that seem to be drawn, with times that go on by a little and by much.
func TestDrawnCalls(t *testing.T) {
	for seed := range 120 {
		b := newBench(t)
		draw := numbers(uint64(seed))
		for range 600 {
			b.doSomething(draw)
			b.look()
		}
	}
}

// R5: the same calls are answered the same, each time.
func TestSameAgain(t *testing.T) {
	run := func() []byte {
		var out []byte
		p := New()
		draw := numbers(77)
		now := uint64(0)
		for range 3000 {
			now += uint64(draw(30))
			p.Out(draw(4), byte(draw(256)), now)
			v, _ := p.In(draw(4), now)
			out = append(out, v)
			if p.Line(now) {
				out = append(out, 1)
			}
		}
		return out
	}
	first := run()
	for range 3 {
		if string(run()) != string(first) {
			t.Fatal("other answers")
		}
	}
}
