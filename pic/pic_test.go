package pic

import (
	"math"
	"testing"

	"drawloom/api"
)

var both = []bool{false, true}

// chipModel is a chip, told line by line as the chapter's section 'Types' does.
type chipModel struct {
	up, asks, served, masked [8]bool
	base                     int
	servedRead, endsItself   bool
	want                     []string // what comes on data behind the set-up's first byte
}

// model is a pair of them. What the first chip's line 2 asks is never kept: it is looked for each time.
type model struct {
	chips [2]chipModel
}

func (m *model) asks(k, n int) bool {
	if k == 0 && n == 2 {
		return m.tell(1) >= 0
	}
	return m.chips[k].asks[n]
}

// tell is P11.6's words: a line that asks and is not masked, with no line of the same or a lower number served; the lowest such.
func (m *model) tell(k int) int {
	for n := 0; n < 8; n++ {
		good := m.asks(k, n) && !m.chips[k].masked[n]
		for low := 0; low <= n; low++ {
			good = good && !m.chips[k].served[low]
		}
		if good {
			return n
		}
	}
	return -1
}

func has(v byte, bit int) bool { return int(v)/(1<<bit)%2 == 1 }

func (m *model) out(port int, v byte) api.Errno {
	if port < 0 || port > 3 {
		return api.ErrArg
	}
	c := &m.chips[port/2]
	if port == 0 || port == 2 {
		c.command(v)
	} else {
		c.data(v)
	}
	return api.OK
}

func (c *chipModel) command(v byte) {
	if has(v, 4) {
		c.asks, c.served, c.masked = [8]bool{}, [8]bool{}, [8]bool{}
		c.servedRead, c.endsItself = false, false
		c.want = []string{"base"}
		if !has(v, 1) {
			c.want = append(c.want, "nothing")
		}
		if has(v, 0) {
			c.want = append(c.want, "last")
		}
		return
	}
	if has(v, 3) {
		if has(v, 1) {
			c.servedRead = has(v, 0)
		}
		return
	}
	switch int(v) / 32 {
	case 1:
		for n := range c.served {
			if c.served[n] {
				c.served[n] = false
				return
			}
		}
	case 3:
		c.served[int(v)%8] = false
	}
}

func (c *chipModel) data(v byte) {
	if len(c.want) == 0 {
		for n := range c.masked {
			c.masked[n] = has(v, n)
		}
		return
	}
	switch c.want[0] {
	case "base":
		c.base = int(v) / 8 * 8
	case "last":
		c.endsItself = has(v, 1)
	}
	c.want = c.want[1:]
}

func (m *model) in(port int) (byte, api.Errno) {
	if port < 0 || port > 3 {
		return 0, api.ErrArg
	}
	k := port / 2
	out := 0
	for n := 7; n >= 0; n-- {
		bit := m.chips[k].masked[n]
		if port%2 == 0 {
			bit = m.asks(k, n)
			if m.chips[k].servedRead {
				bit = m.chips[k].served[n]
			}
		}
		out *= 2
		if bit {
			out++
		}
	}
	return byte(out), api.OK
}

func (m *model) line(n int, up bool) api.Errno {
	if n < 0 || n > 15 {
		return api.ErrArg
	}
	if n == 2 {
		return api.OK
	}
	c, at := &m.chips[n/8], n%8
	if up && !c.up[at] {
		c.asks[at] = true
	}
	if !up {
		c.asks[at] = false
	}
	c.up[at] = up
	return api.OK
}

func (m *model) ack() int {
	n := m.tell(0)
	if n < 0 {
		return m.chips[0].base + 7
	}
	if n != 2 {
		return m.chips[0].told(n) + n
	}
	second := m.tell(1)
	m.chips[0].told(2)
	return m.chips[1].told(second) + second
}

// told takes a line as told, and answers the base.
func (c *chipModel) told(n int) int {
	c.asks[n] = false
	c.served[n] = !c.endsItself
	return c.base
}

// bench is a pair and its model, to which the same is said.
type bench struct {
	t    *testing.T
	p    *Pic
	m    *model
	said int
}

func newBench(t *testing.T) *bench {
	return &bench{t: t, p: New(), m: &model{}}
}

func (b *bench) out(port int, v byte) {
	b.t.Helper()
	got, want := b.p.Out(port, v), b.m.out(port, v)
	if got != want {
		b.t.Fatalf("said %d: Out(%d, %#x): %v, not %v", b.said, port, v, got, want)
	}
	b.same()
}

func (b *bench) line(n int, up bool) {
	b.t.Helper()
	got, want := b.p.Line(n, up), b.m.line(n, up)
	if got != want {
		b.t.Fatalf("said %d: Line(%d, %v): %v, not %v", b.said, n, up, got, want)
	}
	b.same()
}

func (b *bench) ack() int {
	b.t.Helper()
	got, want := b.p.Ack(), b.m.ack()
	if got != want {
		b.t.Fatalf("said %d: Ack: %#x, not %#x", b.said, got, want)
	}
	b.same()
	return got
}

// same holds what is told without a change: every port, whichever lines are read, and Pending.
func (b *bench) same() {
	b.t.Helper()
	b.said++
	b.ports("as it is")
	for k := range b.m.chips {
		was := b.m.chips[k].servedRead
		for i, served := range []bool{!was, was} {
			v := byte(0x0A)
			if served {
				v = 0x0B
			}
			b.p.Out(2*k, v)
			b.m.out(2*k, v)
			if i == 0 {
				b.ports("the other lines read")
			}
		}
	}
	if got, want := b.p.Pending(), b.m.tell(0) >= 0; got != want {
		b.t.Fatalf("said %d: Pending: %v, not %v", b.said, got, want)
	}
}

func (b *bench) ports(how string) {
	b.t.Helper()
	for port := range 4 {
		got, err := b.p.In(port)
		want, wantErr := b.m.in(port)
		if got != want || err != wantErr {
			b.t.Fatalf("said %d, %s: In(%d): %#x, %v, not %#x, %v", b.said, how, port, got, err, want, wantErr)
		}
	}
}

// setUp sets up both, to 0x20 and 0x28, each ending by itself or not.
func (b *bench) setUp(firstEnds, secondEnds bool) {
	b.t.Helper()
	last := map[bool]byte{false: 1, true: 3}
	for k, ends := range []bool{firstEnds, secondEnds} {
		b.out(2*k, 0x11)
		for _, v := range []byte{byte(0x20 + 8*k), 4, last[ends]} {
			b.out(2*k+1, v)
		}
	}
}

// reads holds what a port tells against a number.
func reads(t *testing.T, p *Pic, port int, want byte) {
	t.Helper()
	if got, err := p.In(port); got != want || err != api.OK {
		t.Errorf("In(%d): %#x, %v, not %#x", port, got, err, want)
	}
}

// asking and serving hold a chip's lines, and leave asking ones to be read.
func asking(t *testing.T, p *Pic, k int, want byte) {
	t.Helper()
	p.Out(2*k, 0x0A)
	reads(t, p, 2*k, want)
}

func serving(t *testing.T, p *Pic, k int, want byte) {
	t.Helper()
	p.Out(2*k, 0x0B)
	reads(t, p, 2*k, want)
	p.Out(2*k, 0x0A)
}

func say(t *testing.T, p *Pic, rows ...[2]int) {
	t.Helper()
	for _, x := range rows {
		if err := p.Out(x[0], byte(x[1])); err != api.OK {
			t.Fatalf("Out(%d, %#x): %v", x[0], x[1], err)
		}
	}
}

func up(t *testing.T, p *Pic, ns ...int) {
	t.Helper()
	for _, n := range ns {
		if err := p.Line(n, true); err != api.OK {
			t.Fatalf("Line(%d, true): %v", n, err)
		}
	}
}

func acks(t *testing.T, p *Pic, want int) {
	t.Helper()
	if got := p.Ack(); got != want {
		t.Errorf("Ack: %#x, not %#x", got, want)
	}
}

func pends(t *testing.T, p *Pic, want bool) {
	t.Helper()
	if got := p.Pending(); got != want {
		t.Errorf("Pending: %v, not %v", got, want)
	}
}

// ready is a pair with the bases 0x20 and 0x28, neither of which ends by itself.
func ready(t *testing.T) *Pic {
	t.Helper()
	p := New()
	say(t, p, [2]int{0, 0x11}, [2]int{1, 0x20}, [2]int{1, 4}, [2]int{1, 1})
	say(t, p, [2]int{2, 0x11}, [2]int{3, 0x28}, [2]int{3, 2}, [2]int{3, 1})
	return p
}

// P11.2 to P11.6: the chapter's examples.
func TestExamples(t *testing.T) {
	p := New()
	say(t, p, [2]int{0, 0x11}, [2]int{1, 0x20}, [2]int{1, 4}, [2]int{1, 1})
	up(t, p, 4)
	pends(t, p, true)
	acks(t, p, 0x24)
	reads(t, p, 0, 0)

	say(t, p, [2]int{0, 0x0B})
	reads(t, p, 0, 0x10)
	up(t, p, 5)
	pends(t, p, false)
	say(t, p, [2]int{0, 0x20})
	pends(t, p, true)
	acks(t, p, 0x25)

	// Line 5 is still served, which has a higher number than the second chip's line.
	say(t, p, [2]int{2, 0x11}, [2]int{3, 0x28}, [2]int{3, 2}, [2]int{3, 1})
	up(t, p, 14)
	acks(t, p, 0x2E)
	acks(t, p, 0x27)
}

// P11.1: New: nothing asks, is served, masked or up; the bases are 0; asking lines are read; neither ends by itself or is being set up. A pair that New did not make is the same.
func TestNew(t *testing.T) {
	for name, make := range map[string]func() *Pic{"New": New, "hand-made": func() *Pic { return &Pic{} }} {
		p := make()
		if p == nil {
			t.Fatalf("%s: nil", name)
		}
		for port := range 4 {
			reads(t, p, port, 0)
		}
		pends(t, p, false)
		acks(t, p, 7)
		for k := range 2 {
			asking(t, p, k, 0)
			serving(t, p, k, 0)
		}

		p = make()
		for n := range 16 {
			up(t, p, n)
		}
		// None was up, so that all ask, and asking ones are read; line 2 by the second chip.
		reads(t, p, 0, 0xFF)
		reads(t, p, 2, 0xFF)
		acks(t, p, 0)
		// Neither ends by itself.
		serving(t, p, 0, 1)
		say(t, p, [2]int{0, 0x20}, [2]int{1, 2})
		acks(t, p, 0)
		serving(t, p, 1, 1)

		// Neither is being set up: data is masks.
		p = make()
		say(t, p, [2]int{1, 0xA5}, [2]int{3, 0x5A})
		reads(t, p, 1, 0xA5)
		reads(t, p, 3, 0x5A)
	}
}

// P11.1: each New is a pair of its own.
func TestNewIsNew(t *testing.T) {
	p, q := New(), New()
	up(t, p, 1, 9)
	say(t, p, [2]int{1, 0xFF})
	for port := range 4 {
		reads(t, q, port, 0)
	}
	pends(t, q, false)
}

// P11.1: ErrArg of other ports, of Out and of In, which changes nothing.
func TestOtherPorts(t *testing.T) {
	for _, port := range []int{-1, 4, -2, -4, 5, 8, 0x20, 256, math.MinInt, math.MaxInt} {
		b := newBench(t)
		b.setUp(false, false)
		b.line(4, true)
		b.line(9, true)
		for _, v := range []byte{0, 0x11, 0x20, 0x0B, 0xFF} {
			if err := b.p.Out(port, v); err != api.ErrArg {
				t.Errorf("Out(%d, %#x): %v", port, v, err)
			}
			b.same()
		}
		if v, err := b.p.In(port); v != 0 || err != api.ErrArg {
			t.Errorf("In(%d): %#x, %v", port, v, err)
		}
		b.same()
	}
}

// P11.1: which port is whose: what is written to a chip's command or data changes that chip alone.
func TestWhosePort(t *testing.T) {
	p := New()
	say(t, p, [2]int{1, 0x12})
	reads(t, p, 1, 0x12)
	reads(t, p, 3, 0)
	say(t, p, [2]int{3, 0x34})
	reads(t, p, 1, 0x12)
	reads(t, p, 3, 0x34)

	p = New()
	up(t, p, 1, 8)
	reads(t, p, 0, 0x06)
	reads(t, p, 2, 0x01)
	say(t, p, [2]int{2, 0x0B})
	reads(t, p, 0, 0x06)
	reads(t, p, 2, 0)
	say(t, p, [2]int{0, 0x0B})
	reads(t, p, 0, 0)
	say(t, p, [2]int{2, 0x0A})
	reads(t, p, 0, 0)
	reads(t, p, 2, 1)
}

// P11.2: set-up takes away what asks, is served and masked, which lines are read and that it ends by itself; the base stays, and so do lines that are up, and the other chip.
func TestSetUpTakesAway(t *testing.T) {
	for k := range 2 {
		p := ready(t)
		say(t, p, [2]int{2 * k, 0x11}, [2]int{1 + 2*k, 0x68 + 8*k}, [2]int{1 + 2*k, 0}, [2]int{1 + 2*k, 3})
		up(t, p, 3+8*k)
		acks(t, p, 0x6B+8*k)
		serving(t, p, k, 0)

		// Now it does not end by itself: set up anew without a last byte, one line served and one asking.
		say(t, p, [2]int{2 * k, 0x12}, [2]int{1 + 2*k, 0x68 + 8*k})
		up(t, p, 4+8*k, 5+8*k)
		if k == 1 {
			say(t, p, [2]int{0, 0x20})
		}
		acks(t, p, 0x6C+8*k)
		say(t, p, [2]int{1 + 2*k, 0x81}, [2]int{2 * k, 0x0B})
		serving(t, p, k, 0x10)
		asking(t, p, k, 0x20)
		say(t, p, [2]int{2 * k, 0x0B})

		say(t, p, [2]int{2 * k, 0x12})
		reads(t, p, 1+2*k, 0)
		reads(t, p, 2*k, 0)
		serving(t, p, k, 0)
		asking(t, p, k, 0)
		pends(t, p, false)
		up(t, p, 4+8*k, 5+8*k)
		asking(t, p, k, 0) // they were up
		up(t, p, 6+8*k)
		reads(t, p, 2*k, 0x40) // asking lines are read
		if k == 1 {
			say(t, p, [2]int{0, 0x20})
		}
		acks(t, p, 0x6E+8*k) // the base has not come yet: it stayed
		serving(t, p, k, 0x40)
	}
}

// P11.2: set-up of one chip leaves the other as it is.
func TestSetUpLeavesTheOther(t *testing.T) {
	for k := range 2 {
		for first := range 256 {
			if !has(byte(first), 4) {
				continue
			}
			b := newBench(t)
			b.setUp(true, true)
			b.out(1, 0x80)
			b.out(3, 0x81)
			b.line(5, true)
			b.line(13, true)
			b.line(8, true)
			b.out(2*k, byte(first))
			b.out(1+2*k, 0x40)
			b.ack()
			b.ack()
			b.ack()
		}
	}
}

// P11.2, P11.3: how many bytes come behind each first one: the base; unless bit 1 is set one that says nothing; if bit 0 is set one more. What comes then is masks.
func TestSetUpBytes(t *testing.T) {
	for k := range 2 {
		for first := range 256 {
			if !has(byte(first), 4) {
				continue
			}
			want := 1
			if !has(byte(first), 1) {
				want++
			}
			if has(byte(first), 0) {
				want++
			}
			p := New()
			say(t, p, [2]int{1 + 2*k, 0x3C}, [2]int{2 * k, first})
			got := 0
			for {
				if err := p.Out(1+2*k, 0xF1); err != api.OK {
					t.Fatalf("Out: %v", err)
				}
				if v, _ := p.In(1 + 2*k); v == 0xF1 {
					break
				} else if v != 0 {
					t.Fatalf("first byte %#x: masks %#x", first, v)
				}
				if got++; got > 9 {
					break
				}
			}
			if got != want {
				t.Errorf("chip %d, first byte %#x: %d bytes, not %d", k, first, got, want)
			}
		}
	}
}

// P11.3: the base is the first byte behind the set-up's beginning, with its bits 0 to 2 taken away; the others do not change it.
func TestBase(t *testing.T) {
	for v := range 256 {
		for _, first := range []int{0x10, 0x11, 0x12, 0x13} {
			p := New()
			say(t, p, [2]int{0, first}, [2]int{1, v}, [2]int{1, 0xF8}, [2]int{1, 0xF8}, [2]int{1, 0})
			acks(t, p, v/8*8+7)
			up(t, p, 5)
			acks(t, p, v/8*8+5)

			p = New()
			say(t, p, [2]int{2, first}, [2]int{3, v}, [2]int{3, 0xF8}, [2]int{3, 0xF8}, [2]int{3, 0})
			acks(t, p, 7)
			up(t, p, 12)
			acks(t, p, v/8*8+4)
		}
	}
}

// P11.3: the chip ends by itself if bit 1 of the last byte is set, whatever else it and the byte that says nothing have; without a last byte it does not.
func TestLastByte(t *testing.T) {
	for v := range 256 {
		for _, first := range []int{0x10, 0x11, 0x12, 0x13} {
			for k := range 2 {
				p := New()
				rows := [][2]int{{2 * k, first}, {1 + 2*k, 0x42}}
				if first&2 == 0 {
					rows = append(rows, [2]int{1 + 2*k, 255 - v})
				}
				want := byte(0x20)
				if first&1 != 0 {
					rows = append(rows, [2]int{1 + 2*k, v})
					if has(byte(v), 1) {
						want = 0
					}
				}
				say(t, p, rows...)
				up(t, p, 5+8*k)
				acks(t, p, 0x45)
				serving(t, p, k, want)
				serving(t, p, 1-k, map[int]byte{0: 0, 1: 4}[k])
			}
		}
	}
}

// P11.2: set-up begins anew in the midst of a set-up, at the base, by the bits of the new first byte.
func TestSetUpAnew(t *testing.T) {
	for k := range 2 {
		for behind := range 3 {
			for _, first := range []int{0x10, 0x11, 0x12, 0x13} {
				for _, again := range []int{0x10, 0x11, 0x12, 0x13} {
					b := newBench(t)
					b.out(2*k, byte(first))
					for range behind {
						b.out(1+2*k, 0x6A)
					}
					b.out(2*k, byte(again))
					for _, v := range []byte{0x92, 0x02, 0x02, 0x60} {
						b.out(1+2*k, v)
					}
					b.line(4+8*k, true)
					if got := b.ack(); got != 0x94 {
						t.Errorf("%#x, %d bytes, %#x: %#x", first, behind, again, got)
					}
					b.ack()
				}
			}
		}
	}
}

// P11.2: other commands in the midst of a set-up are done, and it goes on where it was.
func TestCommandsInSetUp(t *testing.T) {
	p := New()
	say(t, p, [2]int{0, 0x11})
	up(t, p, 3)
	acks(t, p, 3)
	say(t, p, [2]int{0, 0x0B})
	reads(t, p, 0, 8)
	say(t, p, [2]int{1, 0x50}, [2]int{0, 0x20})
	reads(t, p, 0, 0)
	say(t, p, [2]int{1, 0}, [2]int{0, 0x63}, [2]int{1, 2})
	reads(t, p, 0, 0)
	p.Line(3, false)
	up(t, p, 3)
	acks(t, p, 0x53)
	reads(t, p, 0, 0) // it ends by itself
	say(t, p, [2]int{1, 0x77})
	reads(t, p, 1, 0x77)
}

// P11.3: masks behind the set-up: the lines whose bits are set are masked, the others not; while it is set up no line is.
func TestMasks(t *testing.T) {
	for k := range 2 {
		for v := range 256 {
			p := ready(t)
			up(t, p, 8*k, 8*k+1, 8*k+3, 8*k+4, 8*k+5, 8*k+6, 8*k+7)
			say(t, p, [2]int{1 + 2*k, 255 - v}, [2]int{1 + 2*k, v})
			reads(t, p, 1+2*k, byte(v))
			reads(t, p, 3-2*k, 0)
			pends(t, p, v|4 != 255)
			// Masks take no asking away.
			asking(t, p, k, 0xFB)
		}
	}
	p := New()
	say(t, p, [2]int{0, 0x11})
	up(t, p, 0, 1, 3, 4, 5, 6, 7)
	for range 3 {
		reads(t, p, 1, 0)
		pends(t, p, true)
		say(t, p, [2]int{1, 0xFF})
	}
	reads(t, p, 1, 0)
	pends(t, p, true)
	say(t, p, [2]int{1, 0xFF})
	reads(t, p, 1, 0xFF)
	pends(t, p, false)
}

// P11.2: which lines are read: with bit 3 and not bit 4, where bit 1 is set, by bit 0; else as before. All commands, with either read before.
func TestWhichAreRead(t *testing.T) {
	for k := range 2 {
		for v := range 256 {
			for _, before := range both {
				p := ready(t)
				up(t, p, 8*k+5)
				p.Ack()
				up(t, p, 8*k+6)
				now := before
				if before {
					say(t, p, [2]int{2 * k, 0x0B})
				}
				say(t, p, [2]int{2 * k, v})
				want := map[bool]byte{false: 0x40, true: 0x20}
				switch {
				case has(byte(v), 4):
					now, want = false, map[bool]byte{}
				case has(byte(v), 3):
					if has(byte(v), 1) {
						now = has(byte(v), 0)
					}
				case v/32 == 1 || v == 0x65:
					want[true] = 0
				}
				reads(t, p, 2*k, want[now])
			}
		}
	}
}

// P11.2: a command with bit 3 ends nothing, whatever its bits 5 to 7.
func TestReadEndsNothing(t *testing.T) {
	for v := range 256 {
		if !has(byte(v), 3) || has(byte(v), 4) {
			continue
		}
		p := ready(t)
		up(t, p, 5)
		acks(t, p, 0x25)
		say(t, p, [2]int{0, v})
		serving(t, p, 0, 0x20)
	}
}

// serve makes a pair in which the chip's lines of a byte are served, all at once: those with higher numbers first.
func serve(t *testing.T, k int, served byte) *Pic {
	t.Helper()
	p := ready(t)
	for n := 7; n >= 0; n-- {
		if !has(served, n) {
			continue
		}
		switch {
		case k == 1:
			say(t, p, [2]int{0, 0x62}) // so that the first chip keeps nothing back
			up(t, p, n+8)
		case n == 2:
			up(t, p, 8)
		default:
			up(t, p, n)
		}
		p.Ack()
	}
	serving(t, p, k, served)
	return p
}

// P11.2: the ends of bits 5 to 7, all eight, with all bits 0 to 2, with each set of lines served: none, one and several.
func TestEnds(t *testing.T) {
	for k := range 2 {
		for served := range 256 {
			for what := range 8 {
				for n := range 8 {
					want := byte(served)
					switch what {
					case 1:
						for low := range 8 {
							if has(want, low) {
								want -= 1 << low
								break
							}
						}
					case 3:
						if has(want, n) {
							want -= 1 << n
						}
					}
					p := serve(t, k, byte(served))
					say(t, p, [2]int{2 * k, 32*what + n})
					serving(t, p, k, want)
				}
			}
		}
	}
}

// P11.2: an end of one chip leaves the other's lines served.
func TestEndLeavesTheOther(t *testing.T) {
	p := ready(t)
	up(t, p, 10)
	acks(t, p, 0x2A)
	serving(t, p, 0, 4)
	serving(t, p, 1, 4)
	say(t, p, [2]int{2, 0x20})
	serving(t, p, 0, 4)
	serving(t, p, 1, 0)
	p.Line(10, false)
	say(t, p, [2]int{0, 0x62})
	up(t, p, 10)
	acks(t, p, 0x2A)
	say(t, p, [2]int{0, 0x62})
	serving(t, p, 0, 0)
	serving(t, p, 1, 4)
}

// P11.5: Line of every number: the chip and the line that it is; ErrArg of others; 2 does nothing.
func TestLines(t *testing.T) {
	for n := -1; n <= 16; n++ {
		p := ready(t)
		want := api.OK
		var first, second byte
		switch {
		case n < 0 || n > 15:
			want = api.ErrArg
		case n >= 8:
			first, second = 4, 1<<(n-8)
		case n != 2:
			first = 1 << n
		}
		if err := p.Line(n, true); err != want {
			t.Errorf("Line(%d, true): %v, not %v", n, err, want)
		}
		reads(t, p, 0, first)
		reads(t, p, 2, second)
		pends(t, p, first != 0)
		if err := p.Line(n, false); err != want {
			t.Errorf("Line(%d, false): %v, not %v", n, err, want)
		}
		reads(t, p, 0, 0)
		reads(t, p, 2, 0)
		pends(t, p, false)
		acks(t, p, 0x27)
	}
	for _, n := range []int{-2, -8, -16, 17, 24, 256, math.MinInt, math.MaxInt} {
		b := newBench(t)
		b.line(6, true)
		for _, up := range both {
			if err := b.p.Line(n, up); err != api.ErrArg {
				t.Errorf("Line(%d, %v): %v", n, up, err)
			}
			b.same()
		}
	}
}

// P11.5: a line asks when it goes up: not if it was up, not if it is down; whether it is masked or served does not matter.
func TestUpAndDown(t *testing.T) {
	for n := range 16 {
		if n == 2 {
			continue
		}
		k, bit := n/8, byte(1)<<(n%8)
		p := ready(t)
		up(t, p, n)
		up(t, p, n)
		asking(t, p, k, bit)
		want := p.Ack()
		if want != 0x20+n {
			t.Errorf("line %d: %#x", n, want)
		}
		asking(t, p, k, 0)
		up(t, p, n) // up twice: it asks no more
		asking(t, p, k, 0)
		p.Line(n, false) // down while it is served
		asking(t, p, k, 0)
		serving(t, p, k, bit)
		up(t, p, n) // up anew while it is served: it asks, and is not told
		asking(t, p, k, bit)
		serving(t, p, k, bit)
		pends(t, p, false)
		say(t, p, [2]int{2, 0x20}, [2]int{0, 0x20})
		pends(t, p, true)
		p.Line(n, false) // down while it asks
		asking(t, p, k, 0)
		pends(t, p, false)
		up(t, p, n)
		p.Line(n, false)
		p.Line(n, false)
		up(t, p, n)
		acks(t, p, 0x20+n)

		p = ready(t)
		say(t, p, [2]int{1 + 2*k, 255})
		up(t, p, n)
		asking(t, p, k, bit)
		pends(t, p, false)
		say(t, p, [2]int{1 + 2*k, 0})
		pends(t, p, true)
	}
}

// P11.5: line 2 does nothing, whatever the second chip tells.
func TestLineTwo(t *testing.T) {
	p := ready(t)
	for _, v := range []bool{true, true, false, true} {
		if err := p.Line(2, v); err != api.OK {
			t.Fatalf("Line(2, %v): %v", v, err)
		}
		reads(t, p, 0, 0)
		reads(t, p, 2, 0)
		pends(t, p, false)
	}
	up(t, p, 11)
	for _, v := range both {
		p.Line(2, v)
		reads(t, p, 0, 4)
		pends(t, p, true)
	}
	acks(t, p, 0x2B)
	p.Line(2, false)
	serving(t, p, 0, 4)
	// The second chip's own line 2 is a line as others are.
	up(t, p, 10)
	reads(t, p, 2, 4)
}

// P11.4: the first chip's line 2 asks just while the second chip has one to tell.
func TestFirstShowsSecond(t *testing.T) {
	p := ready(t)
	reads(t, p, 0, 0)
	up(t, p, 12)
	reads(t, p, 0, 4)
	say(t, p, [2]int{3, 0x10}) // it is masked
	reads(t, p, 0, 0)
	say(t, p, [2]int{3, 0xEF})
	reads(t, p, 0, 4)
	p.Line(12, false)
	reads(t, p, 0, 0)
	up(t, p, 12)
	acks(t, p, 0x2C)
	reads(t, p, 0, 0) // it has none: its only one was told
	say(t, p, [2]int{3, 0})
	up(t, p, 13)
	reads(t, p, 0, 0) // it serves a lower line
	up(t, p, 11)
	reads(t, p, 0, 4) // it serves a higher one
	p.Line(11, false)
	reads(t, p, 0, 0)
	say(t, p, [2]int{2, 0x64})
	reads(t, p, 0, 4) // line 13
	say(t, p, [2]int{0, 0x0B})
	reads(t, p, 0, 4) // served, by the Ack of line 12
	say(t, p, [2]int{0, 0x0A})
	say(t, p, [2]int{0, 0x12})
	reads(t, p, 0, 4) // the first chip's set-up takes that away which is its own
	say(t, p, [2]int{2, 0x12})
	reads(t, p, 0, 0) // the second one's set-up takes it away
	up(t, p, 8)
	reads(t, p, 0, 4)
	say(t, p, [2]int{1, 0}, [2]int{1, 4})
	reads(t, p, 0, 4) // masked on the first chip it asks all the same
	pends(t, p, false)
}

// P11.6: each line asking alone, and all: which is told, by which vector, and what is left.
func TestEachAlone(t *testing.T) {
	for n := range 16 {
		if n == 2 {
			continue
		}
		p := ready(t)
		up(t, p, n)
		pends(t, p, true)
		pends(t, p, true) // asking for it takes nothing
		acks(t, p, 0x20+n)
		pends(t, p, false)
		acks(t, p, 0x27)
		if n < 8 {
			serving(t, p, 0, 1<<n)
			serving(t, p, 1, 0)
		} else {
			serving(t, p, 0, 4)
			serving(t, p, 1, 1<<(n-8))
		}
	}

	p := ready(t)
	for n := range 16 {
		up(t, p, n)
	}
	for _, want := range []int{0, 1, 8, 9, 10, 11, 12, 13, 14, 15, 3, 4, 5, 6, 7} {
		pends(t, p, true)
		acks(t, p, 0x20+want)
		pends(t, p, false)
		if want >= 8 {
			say(t, p, [2]int{2, 0x20})
		}
		say(t, p, [2]int{0, 0x20})
	}
	pends(t, p, false)
	acks(t, p, 0x27)
}

// P11.6, P11.7: a line that asks while one of lower, the same or a higher number is served; masked or not. All pairs, on each chip.
func TestAskingAndServed(t *testing.T) {
	for k := range 2 {
		for served := range 8 {
			for asks := range 8 {
				if k == 0 && (served == 2 || asks == 2) {
					continue
				}
				p := ready(t)
				up(t, p, served+8*k)
				acks(t, p, 0x20+served+8*k)
				say(t, p, [2]int{0, 0x62}) // so that the second chip alone decides
				p.Line(asks+8*k, false)
				up(t, p, asks+8*k)
				say(t, p, [2]int{1 + 2*k, 1 << asks})
				pends(t, p, false)
				say(t, p, [2]int{1 + 2*k, 255 - 1<<asks})
				pends(t, p, asks < served)
				if asks < served {
					acks(t, p, 0x20+asks+8*k)
					serving(t, p, k, 1<<served|1<<asks)
				} else {
					acks(t, p, 0x27)
					serving(t, p, k, 1<<served)
					asking(t, p, k, 1<<asks)
				}
			}
		}
	}
}

// P11.6: all sets of lines that ask, are masked and served (of the higher four), on the second chip, against the model.
func TestSets(t *testing.T) {
	for k := range 2 {
		for _, served := range []byte{0, 0x80, 0x40, 0x10, 0x08, 0x90, 0x01, 0x02} {
			for asks := range 256 {
				b := newBench(t)
				b.setUp(false, false)
				for n := 7; n >= 0; n-- {
					if has(served, n) {
						b.line(n+8*k, true)
						b.ack()
						b.out(0, 0x62)
						b.line(n+8*k, false)
					}
				}
				for n := range 8 {
					b.line(n+8*k, has(byte(asks), n))
				}
				for _, mask := range []byte{0, 0x01, 0x10, 0x0F, 0xF0, 0x55, 0xFE, 0xFF} {
					b.out(1+2*k, mask)
				}
				b.out(1+2*k, byte(asks*7))
				b.ack()
				b.ack()
			}
		}
	}
}

// P11.6: Ack with nothing to tell is the first chip's base and 7, and changes nothing, even where the second chip's line is up behind a mask.
func TestAckOfNothing(t *testing.T) {
	b := newBench(t)
	if got := b.ack(); got != 7 {
		t.Errorf("Ack: %#x", got)
	}
	b.setUp(false, false)
	if got := b.ack(); got != 0x27 {
		t.Errorf("Ack: %#x", got)
	}
	b.line(3, true)
	b.line(12, true)
	b.out(1, 0xFF)
	if got := b.ack(); got != 0x27 {
		t.Errorf("Ack: %#x", got)
	}
	asking(t, b.p, 0, 0x0C)
	asking(t, b.p, 1, 0x10)
	serving(t, b.p, 0, 0)
	serving(t, b.p, 1, 0)
	// Line 7 itself is told by the same vector, and is served then.
	b.line(7, true)
	b.out(1, 0x7F)
	if got := b.ack(); got != 0x27 {
		t.Errorf("Ack: %#x", got)
	}
	serving(t, b.p, 0, 0x80)
	b.out(3, 0xFF)
	b.ack()
}

// P11.6: Ack through line 2, where both chips end by themselves, one of them, neither.
func TestAckThroughTwo(t *testing.T) {
	for _, firstEnds := range both {
		for _, secondEnds := range both {
			b := newBench(t)
			b.setUp(firstEnds, secondEnds)
			b.line(9, true)
			b.line(12, true)
			if got := b.ack(); got != 0x29 {
				t.Errorf("%v, %v: %#x", firstEnds, secondEnds, got)
			}
			first, second := byte(4), byte(2)
			if firstEnds {
				first = 0
			}
			if secondEnds {
				second = 0
			}
			serving(t, b.p, 0, first)
			serving(t, b.p, 1, second)
			asking(t, b.p, 1, 0x10)
			// Line 12 asks still: the second chip has it to tell if it ended by itself, the first one likewise.
			asking(t, b.p, 0, map[bool]byte{false: 0, true: 4}[secondEnds])
			pends(t, b.p, firstEnds && secondEnds)
			want := 0x27
			if firstEnds && secondEnds {
				want = 0x2C
			}
			if got := b.ack(); got != want {
				t.Errorf("%v, %v: then %#x, not %#x", firstEnds, secondEnds, got, want)
			}
		}
	}
}

// P11.6, P11.7: line 2 masked or served: nothing of the second chip is told, and it asks on.
func TestLineTwoKeptBack(t *testing.T) {
	p := ready(t)
	say(t, p, [2]int{1, 4})
	for n := 8; n < 16; n++ {
		up(t, p, n)
	}
	pends(t, p, false)
	acks(t, p, 0x27)
	asking(t, p, 1, 0xFF)
	serving(t, p, 1, 0)
	up(t, p, 6)
	acks(t, p, 0x26)
	say(t, p, [2]int{1, 0})
	acks(t, p, 0x28) // line 2 has a lower number than 6
	say(t, p, [2]int{2, 0x20})
	asking(t, p, 0, 4)
	pends(t, p, false) // line 2 itself is served
	up(t, p, 3)
	pends(t, p, false)
	up(t, p, 1)
	acks(t, p, 0x21)
	say(t, p, [2]int{0, 0x20}, [2]int{0, 0x20})
	acks(t, p, 0x29)
}

// P11.7: what was told is told again only behind its line's going up anew, also where the chip ends by itself.
func TestToldOnce(t *testing.T) {
	for _, ends := range both {
		for n := range 16 {
			if n == 2 {
				continue
			}
			b := newBench(t)
			b.setUp(ends, ends)
			b.line(n, true)
			for range 3 {
				if got := b.ack(); got != 0x20+n {
					t.Errorf("line %d: %#x", n, got)
				}
				for range 2 {
					b.out(0, 0x20)
					b.out(2, 0x20)
					b.line(n, true)
					b.out(1, 0xFF)
					b.out(1, 0)
					b.out(3, 0xFF)
					b.out(3, 0)
					if got := b.ack(); got != 0x27 || b.p.Pending() {
						t.Errorf("line %d is told again: %#x", n, got)
					}
				}
				b.line(n, false)
				b.line(n, true)
			}
		}
	}
}

// numbers are such as seem to be drawn, the same each time.
func numbers(seed uint64) func(below int) int {
	x := seed
	return func(below int) int {
		x = x*6364136223846793005 + 1442695040888963407
		return int(x>>33) % below
	}
}

// doSomething says one thing to both, more often a thing that a program would say.
func (b *bench) doSomething(draw func(int) int) {
	b.t.Helper()
	k := draw(2)
	switch draw(16) {
	case 0, 1, 2, 3, 4:
		b.line(draw(16), true)
	case 5, 6, 7:
		b.line(draw(18)-1, false)
	case 8, 9, 10:
		b.ack()
	case 11:
		b.out(2*k, 0x20)
	case 12:
		b.out(2*k, byte(0x60+draw(8)))
	case 13:
		b.out(1+2*k, byte(draw(256)&draw(256)))
	case 14:
		if draw(8) == 0 {
			b.out(2*k, byte(draw(256)))
		} else {
			b.out(draw(6)-1, byte(draw(256)&^0x10))
		}
	case 15:
		if draw(4) == 0 {
			b.out(2*k, byte(0x10+draw(4)))
		}
	}
}

// P11.1 to P11.7: long rows of calls, against the model.
func TestDrawn(t *testing.T) {
	for seed := range 60 {
		b := newBench(t)
		draw := numbers(uint64(seed))
		b.setUp(seed%2 == 1, seed%4 > 1)
		for range 1500 {
			b.doSomething(draw)
		}
	}
}

// servedBelow tells whether a line with a lower number than n is served.
func servedBelow(p *Pic, k, n int) bool {
	p.Out(2*k, 0x0B)
	v, _ := p.In(2 * k)
	p.Out(2*k, 0x0A)
	return int(v)%(1<<n) != 0
}

// P11.7: of drawn rows of calls, without a model: what is masked is never told; nothing is told while a line with a lower number is served; what was told is told again only when its line went up anew.
func TestFollows(t *testing.T) {
	for seed := range 40 {
		p := New()
		ends := []int{1, 3}
		say(t, p, [2]int{0, 0x11}, [2]int{1, 0x20}, [2]int{1, 4}, [2]int{1, ends[seed%2]})
		say(t, p, [2]int{2, 0x11}, [2]int{3, 0x28}, [2]int{3, 2}, [2]int{3, ends[seed/2%2]})
		draw := numbers(uint64(seed + 1000))
		var isUp, fresh [16]bool
		told := 0
		for range 3000 {
			switch draw(6) {
			case 0, 1:
				n := draw(16)
				up := draw(3) > 0
				fresh[n] = fresh[n] || up && !isUp[n]
				isUp[n] = up
				p.Line(n, up)
			case 2:
				p.Out(1+2*draw(2), byte(draw(256)&draw(256)))
			case 3:
				p.Out(2*draw(2), byte(0x20+0x40*draw(2)+draw(8)))
			default:
				if !p.Pending() {
					continue
				}
				masked, _ := p.In(1)
				maskedSecond, _ := p.In(3)
				var below [16]bool
				for n := range below {
					below[n] = servedBelow(p, n/8, n%8)
				}
				n := p.Ack() - 0x20
				told++
				if n < 0 || n > 15 || n == 2 {
					t.Fatalf("seed %d: told %d", seed, n)
				}
				line := n
				if n >= 8 {
					line = 2
					if has(maskedSecond, n-8) {
						t.Fatalf("seed %d: %d is masked", seed, n)
					}
				}
				if has(masked, line) {
					t.Fatalf("seed %d: %d is masked", seed, n)
				}
				if below[n] || below[line] {
					t.Fatalf("seed %d: a lower line than %d is served", seed, n)
				}
				if !fresh[n] {
					t.Fatalf("seed %d: %d did not go up anew", seed, n)
				}
				fresh[n] = false
			}
		}
		if told < 100 {
			t.Errorf("seed %d: only %d were told", seed, told)
		}
	}
}

// R1: calls of nil, each of them.
func TestNil(t *testing.T) {
	var p *Pic
	for port := -1; port <= 4; port++ {
		for _, v := range []byte{0, 0x11, 0xFF} {
			if err := p.Out(port, v); err != api.ErrArg {
				t.Errorf("Out(%d, %#x): %v", port, v, err)
			}
		}
		if v, err := p.In(port); v != 0 || err != api.ErrArg {
			t.Errorf("In(%d): %#x, %v", port, v, err)
		}
	}
	for n := -1; n <= 16; n++ {
		for _, up := range both {
			if err := p.Line(n, up); err != api.ErrArg {
				t.Errorf("Line(%d, %v): %v", n, up, err)
			}
		}
	}
	if p.Pending() {
		t.Error("Pending of nil")
	}
	if v := p.Ack(); v != 0 {
		t.Errorf("Ack of nil: %#x", v)
	}
}
