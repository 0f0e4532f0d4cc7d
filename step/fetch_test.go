package step_test

import (
	"bytes"
	"fmt"
	"slices"
	"testing"

	"drawloom/api"
	"drawloom/decode"
	"drawloom/exec"
	"drawloom/step"
)

// byLength are instructions of 1 to 15 bytes, in order.
var byLength = [][]byte{
	{0x40},
	{0xCD, 0x80},
	{0x83, 0xC0, 0xFB},
	{0x66, 0xB8, 0x34, 0x12},
	{0xB8, 1, 2, 3, 4},
	{0x81, 0xC3, 1, 2, 3, 4},
	{0xC6, 0x05, 1, 2, 3, 4, 5},
	{0xC7, 0x44, 0x24, 8, 1, 2, 3, 4},
	{0x2E, 0xC7, 0x44, 0x24, 8, 1, 2, 3, 4},
	{0xC7, 0x80, 1, 2, 3, 4, 5, 6, 7, 8},
	{0xC7, 0x84, 0x8D, 1, 2, 3, 4, 5, 6, 7, 8},
	{0x65, 0xC7, 0x84, 0x8D, 1, 2, 3, 4, 5, 6, 7, 8},
	{0xF3, 0x65, 0xC7, 0x84, 0x8D, 1, 2, 3, 4, 5, 6, 7, 8},
	{0xF3, 0xF2, 0x65, 0xC7, 0x84, 0x8D, 1, 2, 3, 4, 5, 6, 7, 8},
	{0x26, 0x2E, 0x36, 0x3E, 0x66, 0x66, 0xF3, 0xF2, 0x64, 0x65, 0x26, 0xF2, 0xF3, 0x66, 0x90},
}

// fetched holds what Fetch tells against what it should.
func fetched(t *testing.T, what string, e *exec.Env, wantX api.Inst, wantAt []uint32, wantF api.Fault) {
	t.Helper()
	was, now := e.Cpu, e.Bus.Now()
	x, at, f := step.Fetch(e)
	if x != wantX || !slices.Equal(at, wantAt) || f != wantF {
		t.Errorf("%s: %+v, %x, %+v; want %+v, %x, %+v", what, x, at, f, wantX, wantAt, wantF)
	}
	if e.Cpu != was || e.Bus.Now() != now {
		t.Errorf("%s: %s, time %d; want %d", what, unlike(e.Cpu, was), e.Bus.Now(), now)
	}
}

// mean is what bytes mean by decode.
func mean(t *testing.T, b []byte) api.Inst {
	t.Helper()
	x, err := decode.Decode(b)
	if err != api.OK || x.Len != len(b) {
		t.Fatalf("% x: %+v, %v", b, x, err)
	}
	return x
}

func placesFrom(at uint32, n int) []uint32 {
	var list []uint32
	for i := range n {
		list = append(list, at+uint32(i))
	}
	return list
}

// P19.1: each length; what stands behind an instruction does not matter; the processor may be halted, or dead: it is not asked.
func TestFetchOfEachLength(t *testing.T) {
	for n, b := range byLength {
		if len(b) != n+1 {
			t.Fatalf("% x has not %d bytes", b, n+1)
		}
		for _, marks := range []string{"", "halted", "dying", "shadow", "asks set=IF"} {
			for _, behind := range []byte{0, 0x66, 0x0F, 0xFF} {
				s := fresh()
				s.apply(marks, 0)
				copy(s.mem[begin:], bytes.Repeat([]byte{behind}, 32))
				copy(s.mem[begin:], b)
				e := s.env(t)
				fetched(t, fmt.Sprintf("% x %s", b, marks), e, mean(t, b), placesFrom(begin, len(b)), none)
				stateOf(e, 0).holds(t, "then", s)
			}
		}
	}
}

// P19.1: too long, and no instruction.
func TestFetchOfNoInstruction(t *testing.T) {
	ud := api.Fault{Vec: 6, Code: -1}
	prefixes := func(n int, then ...byte) []byte { return append(bytes.Repeat([]byte{0x66}, n), then...) }
	for _, c := range []struct {
		b    []byte
		want api.Fault
	}{
		{prefixes(15, 0x90), gp(0)},
		{prefixes(16, 0x90), gp(0)},
		{prefixes(40), gp(0)},
		{prefixes(15, 0x67), gp(0)},
		{prefixes(14, 0x0F, 0x0B), gp(0)},
		{prefixes(13, 0x81, 0xC0), gp(0)},
		{prefixes(14, 0x81), gp(0)},
		{prefixes(6, 0xC7, 0x84, 0x8D, 1, 2, 3, 4, 5, 6), none},
		{prefixes(7, 0xC7, 0x84, 0x8D, 1, 2, 3, 4, 5, 6), gp(0)},
		{prefixes(14, 0x90), none},
		{[]byte{0x0F, 0x0B}, ud},
		{[]byte{0x67, 0x90}, ud},
		{[]byte{0xF0, 0x90}, ud},
		{[]byte{0x8D, 0xC0}, ud},
		{[]byte{0x8E, 0xC8}, ud},
		{[]byte{0xFF, 0xF8}, ud},
		{prefixes(14, 0x67), ud},
		{prefixes(13, 0x0F, 0x0B), ud},
	} {
		s := fresh()
		copy(s.mem[begin:], c.b)
		e := s.env(t)
		if c.want == none {
			n := mean(t, c.b[:min(len(c.b), 15)]).Len
			fetched(t, fmt.Sprintf("% x", c.b), e, mean(t, c.b[:n]), placesFrom(begin, n), none)
		} else {
			fetched(t, fmt.Sprintf("% x", c.b), e, api.Inst{}, nil, c.want)
		}
		stateOf(e, 0).holds(t, "then", s)
	}
}

// P19.1: the code segment's end: at the last byte, ahead of it, and behind it; no byte more than is wanted is asked for.
func TestFetchAtLimit(t *testing.T) {
	for n, b := range byLength {
		last := uint32(begin + n)
		for _, limit := range []uint32{0, begin - 1, begin, last - 1, last, last + 1, all} {
			s := fresh()
			copy(s.mem[begin:], b)
			s.cpu.Seg[api.Cs].D.Limit = limit
			e := s.env(t)
			if limit >= last {
				fetched(t, fmt.Sprintf("% x, Limit %x", b, limit), e, mean(t, b), placesFrom(begin, len(b)), none)
			} else {
				fetched(t, fmt.Sprintf("% x, Limit %x", b, limit), e, api.Inst{}, nil, gp(0))
			}
		}
	}
	ud := api.Fault{Vec: 6, Code: -1}
	for _, c := range []struct {
		b     []byte
		limit uint32
		want  api.Fault
	}{
		{[]byte{0x67, 0x90}, begin, ud}, // known at its first byte
		{[]byte{0x0F, 0x0B}, begin, gp(0)},
		{[]byte{0x0F, 0x0B}, begin + 1, ud},
		{[]byte{0x8D, 0xC0}, begin + 1, ud},
		{[]byte{0x8D, 0xC0}, begin, gp(0)},
		{bytes.Repeat([]byte{0x66}, 16), begin + 14, gp(0)},
		{bytes.Repeat([]byte{0x66}, 16), begin + 13, gp(0)},
	} {
		s := fresh()
		copy(s.mem[begin:], c.b)
		s.cpu.Seg[api.Cs].D.Limit = c.limit
		fetched(t, fmt.Sprintf("% x, Limit %x", c.b, c.limit), s.env(t), api.Inst{}, nil, c.want)
	}
}

// P19.1: CS' Base counts, and of CS nothing else; the bytes are code, whether they may be read or not.
func TestFetchBySegment(t *testing.T) {
	b := byLength[4]
	for _, before := range []string{
		"eip=200 cs.base=1000", "eip=FFFFF200 cs.base=2000", "eip=1000 cs.base=200",
		"eip=1200 cs.absent", "eip=1200 cs=2", "eip=1200 cs=10", "eip=1200 in=3", "eip=FFFFFFFF cs.base=1201",
	} {
		s := fresh()
		s.apply(before, 0)
		copy(s.mem[0x1200:], b)
		if before == "eip=1200 cs=2" {
			// A null one has an empty descriptor: Limit 0.
			fetched(t, before, s.env(t), api.Inst{}, nil, gp(0))
			s.cpu.Seg[api.Cs].D.Limit = all
		}
		fetched(t, before, s.env(t), mean(t, b), placesFrom(0x1200, len(b)), none)
	}
}

// P19.1: round 2^32: the offsets are cut, and so are the places.
func TestFetchRoundTheEnd(t *testing.T) {
	for n, b := range byLength {
		for ahead := 1; ahead <= n; ahead++ {
			s := fresh()
			s.cpu.Eip = -uint32(ahead)
			s.cpu.Seg[api.Cs].D.Base = 0x1200
			copy(s.mem[0x1200-ahead:], b)
			fetched(t, fmt.Sprintf("% x, %d ahead", b, ahead), s.env(t), mean(t, b), placesFrom(0x1200-uint32(ahead), len(b)), none)
			s.cpu.Seg[api.Cs].D.Limit = all - 1
			fetched(t, fmt.Sprintf("% x, %d ahead", b, ahead), s.env(t), api.Inst{}, nil, gp(0))
		}
	}
	// Without a base: behind the memory all bytes are 255.
	s := fresh()
	s.cpu.Eip = all
	s.mem[0] = 0xFF
	fetched(t, "FF FF", s.env(t), api.Inst{}, nil, api.Fault{Vec: 6, Code: -1})
	s.mem[0] = 0xD0
	fetched(t, "FF D0", s.env(t), mean(t, []byte{0xFF, 0xD0}), []uint32{all, 0}, none)
}

// P19.1: over two pages: the second one behind the first, elsewhere, ahead of it, the same; the places are in order.
func TestFetchOverPages(t *testing.T) {
	for n, b := range byLength {
		for ahead := 1; ahead <= n; ahead++ {
			for _, second := range []uint32{3, 7, 1, 2} {
				s := fresh()
				s.cpu.Cr0 |= 1 << 31
				s.cpu.Eip = 0x3000 - uint32(ahead)
				s.lay(secondTable+4*3, second<<12|0x67)
				copy(s.mem[s.cpu.Eip:0x3000], b)
				copy(s.mem[second<<12:], b[ahead:])
				want := append(placesFrom(s.cpu.Eip, ahead), placesFrom(second<<12, len(b)-ahead)...)
				e := s.env(t)
				fetched(t, fmt.Sprintf("% x, %d ahead, in page %d", b, ahead, second), e, mean(t, b), want, none)
				stateOf(e, 0).holds(t, "then", s)
			}
		}
	}
}

// P19.1: a page that is not there, or not the ring's: Cr2 is the first byte that lies there; the marks of the page ahead stay.
func TestFetchOfPagesThatAreNotThere(t *testing.T) {
	pf := func(code int, cr2 uint32) api.Fault { return api.Fault{Vec: 14, Code: code, Cr2: cr2} }
	for _, c := range []struct {
		before string
		first  uint32 // the words of the pages 2 and 3
		second uint32
		want   api.Fault
		marks  [2]bool
	}{
		{"", 0x2001, 0x3001, none, [2]bool{true, true}},
		{"", 0x2001, 0x3000, pf(0, 0x3000), [2]bool{true, false}},
		{"", 0x2001, 0, pf(0, 0x3000), [2]bool{true, false}},
		{"", 0x2000, 0x3001, pf(0, 0x2FFE), [2]bool{false, false}},
		{"", 0x2000, 0x3000, pf(0, 0x2FFE), [2]bool{false, false}},
		{"in=3", 0x2005, 0x3005, none, [2]bool{true, true}},
		{"in=3", 0x2005, 0x3004, pf(4, 0x3000), [2]bool{true, false}},
		{"in=3", 0x2005, 0x3003, pf(5, 0x3000), [2]bool{true, false}},
		{"in=3", 0x2003, 0x3005, pf(5, 0x2FFE), [2]bool{false, false}},
		{"in=3", 0x2004, 0x3005, pf(4, 0x2FFE), [2]bool{false, false}},
		{"cr0=80010001", 0x2001, 0x3001, none, [2]bool{true, true}},
	} {
		s := fresh()
		s.cpu.Cr0 |= 1 << 31
		s.apply(c.before, 0)
		s.cpu.Eip = 0x2FFE
		s.lay(firstTable, secondTable|7)
		s.lay(secondTable+4*2, c.first, c.second)
		b := byLength[4]
		copy(s.mem[0x2FFE:], b)
		e := s.env(t)
		what := fmt.Sprintf("%s, %#x, %#x", c.before, c.first, c.second)
		if c.want == none {
			fetched(t, what, e, mean(t, b), placesFrom(0x2FFE, len(b)), none)
		} else {
			fetched(t, what, e, api.Inst{}, nil, c.want)
		}
		for n, marked := range c.marks {
			if marked {
				s.mem[firstTable] |= 0x20
				s.mem[secondTable+4*(2+n)] |= 0x20
			}
		}
		stateOf(e, 0).holds(t, what, s)
	}
}

// P19.1: what ends at the page's end asks for nothing of the next one; nor does what is known ahead of it to be none.
func TestFetchAsksNoFurther(t *testing.T) {
	for _, b := range append(slices.Clone(byLength), bytes.Repeat([]byte{0x66}, 15), []byte{0x67}, []byte{0x0F, 0x0B}, []byte{0x8D, 0xC0}) {
		s := fresh()
		s.cpu.Cr0 |= 1 << 31
		s.cpu.Eip = 0x3000 - uint32(len(b))
		s.lay(secondTable+4*3, 0)
		copy(s.mem[s.cpu.Eip:], b)
		e := s.env(t)
		x, err := decode.Decode(b)
		switch err {
		case api.OK:
			fetched(t, fmt.Sprintf("% x", b), e, x, placesFrom(s.cpu.Eip, len(b)), none)
		case api.ErrDecodeUd:
			fetched(t, fmt.Sprintf("% x", b), e, api.Inst{}, nil, api.Fault{Vec: 6, Code: -1})
		default:
			fetched(t, fmt.Sprintf("% x", b), e, api.Inst{}, nil, gp(0))
		}
		stateOf(e, 0).holds(t, "then", s)
	}
	// One that is marked only if it is asked for.
	s := fresh()
	s.cpu.Cr0 |= 1 << 31
	s.cpu.Eip = 0x2FFF
	s.lay(secondTable+4*3, 0x3007)
	s.mem[0x2FFF] = 0x40
	e := s.env(t)
	fetched(t, "40", e, mean(t, []byte{0x40}), []uint32{0x2FFF}, none)
	stateOf(e, 0).holds(t, "40", s)
}

// P19.1, R5: what is fetched is what stands there now, by whatever way it came there.
func TestFetchOfWhatStandsThere(t *testing.T) {
	s := fresh()
	s.cpu.Cr0 |= 1 << 31
	s.mem[begin] = 0x40
	s.mem[0x5000+begin] = 0x41
	e := s.env(t)
	fetched(t, "at first", e, mean(t, []byte{0x40}), []uint32{begin}, none)
	e.Mem.Ram().Write(begin, 1, 0x42)
	fetched(t, "written", e, mean(t, []byte{0x42}), []uint32{begin}, none)
	e.Mem.Ram().Load(begin, []byte{0x43})
	fetched(t, "laid", e, mean(t, []byte{0x43}), []uint32{begin}, none)
	e.Mem.Ram().Write(secondTable, 4, 0x5067)
	fetched(t, "elsewhere", e, mean(t, []byte{0x41}), []uint32{0x5000 + begin}, none)
	e.Cpu.Eip = 0x5000 + begin
	fetched(t, "there itself", e, mean(t, []byte{0x41}), []uint32{0x5000 + begin}, none)
	e.Cpu.Cr0 &^= 1 << 31
	e.Cpu.Eip = begin
	fetched(t, "without pages", e, mean(t, []byte{0x43}), []uint32{begin}, none)
}

// R4: the places are new memory each time.
func TestPlacesAreNew(t *testing.T) {
	e := program(t, "", "B801020304")
	_, a, _ := step.Fetch(e)
	_, b, _ := step.Fetch(e)
	for n := range a[:cap(a)] {
		a[:cap(a)][n] = 0x77
	}
	if !slices.Equal(b, placesFrom(begin, 5)) {
		t.Errorf("%x", b)
	}
	fetched(t, "again", e, mean(t, []byte{0xB8, 1, 2, 3, 4}), placesFrom(begin, 5), none)
}
