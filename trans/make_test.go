package trans_test

import (
	"bytes"
	"fmt"
	"math"
	"slices"
	"testing"

	"drawloom/api"
	"drawloom/decode"
	"drawloom/exec"
	"drawloom/step"
	"drawloom/trans"
)

// byLength are instructions of 1 to 15 bytes, in order.
var byLength = [][]byte{
	{0x40},
	{0xCD, 0x80},
	{0x83, 0xC0, 0xFB},
	{0x66, 0xB8, 0x34, 0x12},
	{0xB8, 1, 2, 3, 4},
	{0x81, 0xC3, 1, 2, 3, 4},
	{0xC6, 0x05, 1, 2, 3, 4, 5},
	{0xC7, 0x44, 0x24, 8, 1, 2, 3, 4},
	{0x2E, 0xC7, 0x44, 0x24, 8, 1, 2, 3, 4},
	{0xC7, 0x80, 1, 2, 3, 4, 5, 6, 7, 8},
	{0xC7, 0x84, 0x8D, 1, 2, 3, 4, 5, 6, 7, 8},
	{0x65, 0xC7, 0x84, 0x8D, 1, 2, 3, 4, 5, 6, 7, 8},
	{0xF3, 0x65, 0xC7, 0x84, 0x8D, 1, 2, 3, 4, 5, 6, 7, 8},
	{0xF3, 0xF2, 0x65, 0xC7, 0x84, 0x8D, 1, 2, 3, 4, 5, 6, 7, 8},
	{0x26, 0x2E, 0x36, 0x3E, 0x66, 0x66, 0xF3, 0xF2, 0x64, 0x65, 0x26, 0xF2, 0xF3, 0x66, 0x90},
}

// refused holds a call of Make that tells an error.
func refused(t *testing.T, what string, e *exec.Env, most int, want api.Errno) {
	t.Helper()
	if b, err := trans.Make(e, most); b != nil || err != want {
		t.Errorf("%s: Make(%d): %v, %v; want %v", what, most, b, err, want)
	}
}

// P20.1: no Env, or one without Mem or Bus, ahead of all else.
func TestMakeOfNoEnv(t *testing.T) {
	whole := program(t, "", "90")
	was := stateOf(whole)
	for name, e := range map[string]*exec.Env{
		"none":        nil,
		"empty":       {},
		"neither":     {Cpu: whole.Cpu},
		"without Mem": {Cpu: whole.Cpu, Bus: whole.Bus},
		"without Bus": {Cpu: whole.Cpu, Mem: whole.Mem},
	} {
		var ahead api.Cpu
		if e != nil {
			ahead = e.Cpu
		}
		for _, most := range []int{math.MinInt, -1, 0, 1, 64, 65, math.MaxInt} {
			refused(t, name, e, most, api.ErrArg)
		}
		if e != nil && e.Cpu != ahead {
			t.Errorf("%s: %s", name, unlike(e.Cpu, ahead))
		}
	}
	stateOf(whole).holds(t, "the other one", was)
}

// P20.1: how many there may be; that is looked at ahead of what stands there, so that nothing is marked.
func TestMost(t *testing.T) {
	for _, code := range []string{"90", "0F0B"} {
		s := withCode("paged page=0:0:7 words=A000:B007", code)
		e := s.env(t)
		for _, most := range []int{math.MinInt, -1 << 32, -64, -1, 0, 65, 66, 1 << 32, 1<<32 + 1, math.MaxInt} {
			refused(t, code, e, most, api.ErrTransMost)
		}
		stateOf(e).holds(t, code, s)
	}
	e := fresh()
	copy(e.mem[begin:], bytes.Repeat([]byte{0x90}, 100))
	for most := 1; most <= 64; most++ {
		b := made(t, e.env(t), most)
		if n := len(b.Insts()); n < 1 || n > most {
			t.Errorf("Make(%d): %d instructions", most, n)
		}
	}
}

// P20.1: as many as are wanted stand in a block, where nothing is in the way.
func TestBlocksAreLong(t *testing.T) {
	s := fresh()
	copy(s.mem[begin:], bytes.Repeat([]byte{0x40}, 100))
	for most := 1; most <= 64; most++ {
		if n := len(made(t, s.env(t), most).Insts()); n != most {
			t.Errorf("Make(%d): %d instructions", most, n)
		}
	}
}

// P20.1: what leads elsewhere ends a block.
func TestBlocksEnd(t *testing.T) {
	for _, code := range []string{"EB00", "E900000000", "FFE0", "7500", "0F8500000000", "E800000000", "FFD0", "EA000000000800", "C3", "C20400", "E0FE", "E3FE", "CC", "CD80", "CE", "CF", "F4"} {
		if b := blockOf(t, code, withCode("", "40"+code+"4142"), 64); len(b.Insts()) != 2 {
			t.Errorf("%s: %+v", code, b.Insts())
		}
	}
}

// P20.1: where Fetch has a fault there is no block; what it marked stays, as of Fetch.
func TestMakeOfNoInstruction(t *testing.T) {
	for _, x := range []struct{ before, code string }{
		{"", "0F0B"},
		{"", "67"},
		{"", "F090"},
		{"", "8DC0"},
		{"", "66666666666666666666666666666690"},
		{"", "66666666666666666666666666666666"},
		{"cs.limit=FF", "90"},
		{"cs.limit=0", "90"},
		{"cs.limit=103", "B801020304"},
		{"cs=2", "90"},
		{"eip=FFFFFFFF cs.limit=FFFFFFFE", "90"},
		{"eip=FFFFFFFF 0:FF", "90"}, // behind the memory all bytes are 255
		{"paged words=A000:0", "90"},
		{"paged page=0:0:6", "90"},
		{"paged page=0:0:3 in=3", "90"},
		{"paged page=0:0:7 page=1:1:6 eip=FFE FFE:B801", "90"},
		{"paged page=0:0:7 page=1:1:3 in=3 eip=FFE FFE:B801", "90"},
		{"paged page=0:0:7 page=1:1:7 eip=FFE FFE:6666 1000:67", "90"},
		{"paged page=0:0:7 page=1:1:7 words=A000:B007", "67"},
		{"paged page=0:0:7 words=A000:B007 dying", "0F0B"},
		{"paged page=0:0:7 words=A000:B007 halted asks set=IF", "0F0B"},
	} {
		s := withCode(x.before, x.code)
		for _, most := range []int{1, 2, 64} {
			e, other := s.env(t), s.env(t)
			_, _, f := step.Fetch(other)
			if f.Vec < 0 {
				t.Fatalf("%+v: it is one", x)
			}
			refused(t, fmt.Sprintf("%+v", x), e, most, api.ErrTransNone)
			alike(t, fmt.Sprintf("%+v, Make(%d)", x, most), e, other)
		}
	}
}

// blockOf makes the block of a state, and holds it against what Fetch tells, and decode of the bytes behind; and that what it leaves is what Fetch leaves.
func blockOf(t *testing.T, what string, s state, most int) *trans.Block {
	t.Helper()
	e, other := s.env(t), s.env(t)
	b := made(t, e, most)
	x, places, f := step.Fetch(other)
	if f.Vec >= 0 {
		t.Fatalf("%s: %+v", what, f)
	}
	alike(t, what+": Make", e, other)
	list := b.Insts()
	if len(list) < 1 || len(list) > most || list[0] != x {
		t.Fatalf("%s: Make(%d): %+v; want %+v", what, most, list, x)
	}
	off := other.Cpu.Eip + uint32(x.Len)
	for n, is := range list[1:] {
		var code []byte
		for k := range is.Len {
			b, at, f := other.Mem.Code(&other.Cpu, off+uint32(k))
			if f.Vec >= 0 {
				t.Fatalf("%s: the instruction %d: %+v", what, n+1, f)
			}
			code, places = append(code, b), append(places, at)
		}
		if want, err := decode.Decode(code); err != api.OK || is != want {
			t.Fatalf("%s: the instruction %d, % x: %+v; want %+v", what, n+1, code, is, want)
		}
		off += uint32(is.Len)
	}
	if is, want := b.Granules(), granulesOf(places...); !slices.Equal(is, want) {
		t.Fatalf("%s: the granules %x; want %x", what, is, want)
	}
	return b
}

// mixed are 27 bytes: ten instructions of 1 to 7 bytes, none of which leads elsewhere.
const mixed = "40" + "01D8" + "83C0FB" + "66B83412" + "B801020304" + "C6050050000048" + "4B" + "5B" + "50" + "6690"

// P20.1, P20.2: the first instruction is Fetch's, each other one stands directly behind the one ahead, in order; the granules are those of all places, rising, each once.
func TestInstsStandBehindOneAnother(t *testing.T) {
	for _, most := range []int{1, 2, 3, 5, 9, 10, 11, 64} {
		for _, at := range []uint32{begin, begin + 1, 0x13F, 0x17C, 0xFE0, 0xFF0, 0xFFC, 0xFFF, 0x2FFD, 0xFF00} {
			for _, before := range []string{
				"", "paged", "paged in=3", "in=3", "shadow", "halted", "dying", "asks set=IF",
				"paged page=0:1:67 page=1:0:67 page=2:3:67 page=3:2:67", "paged page=1:0:67 page=3:2:67",
			} {
				s := fresh()
				s.cpu.Eip = at
				s.apply(before)
				s.layCode(at, mixed+"EB00")
				blockOf(t, fmt.Sprintf("%q at %#x", before, at), s, most)
			}
		}
	}
}

// P20.1: CS' Base counts, and offsets are cut to 32 bits.
func TestMakeBySegment(t *testing.T) {
	for _, before := range []string{
		"eip=200 cs.base=1000", "eip=FFFFF200 cs.base=2000", "eip=1000 cs.base=200", "eip=1000 cs.base=200 paged",
		"eip=FFFFFFF8 cs.base=1208", "eip=FFFFFFFF cs.base=1201", "eip=FFFFFFF8 cs.base=1208 paged",
		"eip=FFC cs.base=204", "eip=FFC cs.base=204 paged page=1:5:67",
		"eip=1200 cs=10", "eip=1200 cs=28 cs.base=0 cs.limit=FFFFFFFF", "eip=1100 cs=28 cs.limit=FFFFFFFF",
	} {
		s := withCode(before, "90")
		s.layCode(s.cpu.Eip, mixed)
		b := blockOf(t, before, s, 10)
		if n := len(b.Insts()); n != 10 {
			t.Errorf("%s: %d instructions", before, n)
		}
	}
}

// P20.1: a block whose later bytes are none, lie beyond CS's Limit, or on a page that is not there, or not the ring's: it ends ahead of them, and they leave no mark.
func TestMakeWhereTheLineEnds(t *testing.T) {
	for _, x := range []struct {
		before, code string
		most         int
	}{
		{"", "40410F0B", 2},
		{"", "404167", 2},
		{"", "4041F0F0", 2},
		{"", "40418DC0", 2},
		{"", "404166666666666666666666666666666690", 2},
		{"cs.limit=101", "40414243", 2},
		{"cs.limit=100", "40414243", 1},
		{"cs.limit=105", "40B801020304", 2},
		{"cs.limit=104", "40B801020304", 1},
		{"cs.limit=101", "40B801020304", 1},
		{"eip=FFFFFFFE cs.base=102", "40414243", 4},
		{"paged eip=FFE page=1:1:6 FFE:4041", "90", 2},
		{"paged eip=FFE page=1:1:7 FFE:4041 1000:42", "90", 3},
		{"paged eip=FFD page=1:1:6 FFD:40B801", "90", 1},
		{"paged eip=FFD page=1:1:7 FFD:40B801", "90", 2},
		{"paged eip=FFF page=1:1:7 FFF:40", "90", 1},
		{"paged eip=FFE in=3 page=1:1:3 FFE:4041", "90", 2},
		{"paged eip=FFE in=3 page=1:1:7 page=0:0:7 words=A000:B007 FFE:4041", "90", 2},
		{"paged eip=FFE page=1:6:7 page=2:2:7 FFE:B801 6000:020304" + "4041", "90", 3},
		{"paged eip=3FFFFE words=A004:C007 words=BFFC:5007 words=C000:6007 5FFE:4041 6000:42", "90", 2},
		{"paged eip=3FFFFE words=A004:C007 words=BFFC:5007 words=C000:6007 5FFE:B801 6000:02030442", "90", 2},
	} {
		s := withCode(x.before, x.code)
		if b := blockOf(t, fmt.Sprintf("%+v", x), s, 64); len(b.Insts()) > 64 {
			t.Errorf("%+v: %+v", x, b.Insts())
		}
		blockOf(t, fmt.Sprintf("%+v", x), s, x.most)
		blockOf(t, fmt.Sprintf("%+v", x), s, 1)
	}
}

// P20.1, P20.2: an instruction of each length over two pages, which lie elsewhere in memory, in either order, or are one; and over two granules.
func TestMakeOverPages(t *testing.T) {
	for n, code := range byLength {
		for ahead := 1; ahead <= n; ahead++ {
			for _, second := range []uint32{3, 7, 1, 2} {
				s := fresh()
				s.apply("paged page=2:2:7")
				s.cpu.Eip = 0x3000 - uint32(ahead)
				s.lay(secondTable+4*3, second<<12|7)
				copy(s.mem[s.cpu.Eip:0x3000], code)
				copy(s.mem[second<<12:], append(slices.Clone(code[ahead:]), 0x40, 0x41, 0xEB, 0))
				b := blockOf(t, fmt.Sprintf("% x, %d ahead, in page %d", code, ahead, second), s, 64)
				first, then := b.Granules()[0], b.Granules()[len(b.Granules())-1]
				if want := granulesOf(0x2FC0, second<<12); first != want[0] || then != want[1] {
					t.Errorf("%x; want %x", b.Granules(), want)
				}
			}
			s := fresh()
			s.cpu.Eip = 0x140 - uint32(ahead)
			copy(s.mem[s.cpu.Eip:], code)
			if b := blockOf(t, "over granules", s, 1); !slices.Equal(b.Granules(), []uint32{0x100, 0x140}) {
				t.Errorf("% x: %x", code, b.Granules())
			}
		}
	}
}

// P20.1: what Fetch marks may be what it read, and what stands behind: the first instruction is Fetch's all the same, the others are what stands there then.
func TestMakeOfTables(t *testing.T) {
	for _, before := range tableTerms {
		for most := 1; most <= 4; most++ {
			s := withCode(before, "90")
			if _, err := trans.Make(s.env(t), most); err == api.OK {
				blockOf(t, before, s, most)
			} else if _, _, f := step.Fetch(s.env(t)); f.Vec < 0 {
				t.Errorf("%s: %v", before, err)
			}
		}
	}
}

// R4: what is told is new memory each time.
func TestAnswersAreNew(t *testing.T) {
	s := withCode("cs.limit=17F", mixed+"4041424344454647484900")
	e := s.env(t)
	b, other := made(t, e, 64), made(t, e, 64)
	for range 2 {
		insts, granules := b.Insts(), b.Granules()
		clear(insts[:cap(insts)])
		for n := range granules[:cap(granules)] {
			granules[:cap(granules)][n] = 0x77
		}
	}
	if !slices.Equal(b.Insts(), other.Insts()) || !slices.Equal(b.Granules(), other.Granules()) || b.Insts()[0].Len != 1 {
		t.Errorf("%+v, %x", b.Insts(), b.Granules())
	}
	ran(t, "then", b, e, s.env(t), 64)
}

// R5: a block is what stood there when it was made, whatever comes then.
func TestBlocksStay(t *testing.T) {
	e := program(t, "", mixed)
	b := made(t, e, 10)
	insts, granules := b.Insts(), b.Granules()
	change(e, "100:4B4B4B4B4B4B4B4B4B4B4B eip=110")
	made(t, e, 5)
	b.Run(e, 9)
	if !slices.Equal(b.Insts(), insts) || !slices.Equal(b.Granules(), granules) {
		t.Errorf("%+v; want %+v", b.Insts(), insts)
	}
}
