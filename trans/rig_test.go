package trans_test

import (
	"bytes"
	"fmt"
	"slices"
	"strings"
	"testing"

	"drawloom/api"
	"drawloom/bus"
	"drawloom/exec"
	"drawloom/ram"
	"drawloom/step"
	"drawloom/trans"
	"drawloom/vmem"
)

// Where things lie that all rigs have.
const (
	begin     = 0x100 // the program
	gdtBase   = 0x800
	idtBase   = 0xC00
	taskBase  = 0x1400
	taskStack = 0x7000 // the innermost ring's

	firstTable  = 0xA000
	secondTable = 0xB000

	// Where a vector's gate leads: here, and 16 times it.
	handlers = 0x4000

	early = 5 // the time at first
)

// entry is a descriptor, as two words and as what they say.
type entry struct {
	lo, hi uint32
	d      api.Desc
}

var entries = map[uint16]entry{
	0x08: {0x0000FFFF, 0x00CF9A00, api.Desc{Limit: all, Type: 10, Present: true, Big: true}},
	0x10: {0x0000FFFF, 0x00CF9200, api.Desc{Limit: all, Type: 2, Present: true, Big: true}},
	0x18: {0x0000FFFF, 0x00CFFA00, api.Desc{Limit: all, Type: 10, Dpl: 3, Present: true, Big: true}},
	0x20: {0x0000FFFF, 0x00CFF200, api.Desc{Limit: all, Type: 2, Dpl: 3, Present: true, Big: true}},
	0x28: {0x01000FFF, 0x00409A00, api.Desc{Base: 0x100, Limit: 0xFFF, Type: 10, Present: true, Big: true}},
	0x30: {0x14000067, 0x00008B00, api.Desc{Base: taskBase, Limit: 0x67, Type: 11, System: true, Present: true}},
}

// state is all that a call can change.
type state struct {
	cpu api.Cpu
	mem []byte
	bus lines
}

// lines are what a bus is, as far as steps have to do with it.
type lines struct {
	now    uint64
	asks   bool // the serial port's line, of the vector 24
	served bool
}

// fresh is a flat processor of ring 0, no register like another. Of all vectors the gates lead to ring 0.
func fresh() state {
	c := api.Cpu{
		R:     [8]uint32{0xA0A1A2A3, 0xC0C1C2C3, 0xD0D1D2D3, 0xB0B1B2B3, 0x9000, 0x9100, 0x2000, 0x3000},
		Eip:   begin,
		Flags: one,
		Cr0:   1,
		Cr2:   0x22222222,
		Cr3:   firstTable,
		Gdt:   api.Table{Base: gdtBase, Limit: 0x37},
		Idt:   api.Table{Base: idtBase, Limit: 0x7FF},
		Tr:    api.SegReg{Sel: 0x30, D: entries[0x30].d},
	}
	s := state{cpu: c, mem: freshMemory(), bus: lines{now: early}}
	s.setRing(0)
	return s
}

// freshMemory has no byte like its neighbours, but for the tables. Its 16 pages lie where they are without pages, may be written by users, and are marked.
var freshMemory = func() func() []byte {
	s := state{mem: make([]byte, 16*4096)}
	for n := range s.mem {
		s.mem[n] = byte(n*7 + n>>8*13 + 5)
	}
	for sel, e := range entries {
		s.lay(gdtBase+uint32(sel), e.lo, e.hi)
	}
	for vec := range uint32(256) {
		s.lay(idtBase+8*vec, 8<<16|handlers+16*vec, 0x8E00)
		s.lay(handlers+16*vec, 0xF440) // one more in EAX, and a halt
	}
	s.lay(taskBase+4, taskStack, 0x10)
	clear(s.mem[firstTable : secondTable+0x1000])
	s.lay(firstTable, secondTable|0x27)
	for n := range uint32(16) {
		s.lay(secondTable+4*n, n<<12|0x67)
	}
	return func() []byte { return bytes.Clone(s.mem) }
}()

// lay lays words; what lies behind the memory is lost.
func (s *state) lay(at uint32, words ...uint32) {
	for _, v := range words {
		for range 4 {
			if int(at) < len(s.mem) {
				s.mem[at] = byte(v)
			}
			v >>= 8
			at++
		}
	}
}

func (s state) clone() state {
	s.mem = bytes.Clone(s.mem)
	return s
}

// env is an environment that is just as the state says.
func (s state) env(t *testing.T) *exec.Env {
	t.Helper()
	p, err := ram.New(len(s.mem) / 4096)
	if err != api.OK {
		t.Fatal(err)
	}
	m, err := vmem.New(p, 8)
	if err != api.OK {
		t.Fatal(err)
	}
	b, err := bus.New(p, make([]byte, 512))
	if err != api.OK {
		t.Fatal(err)
	}
	setUp(b, 0x20, 0x28)
	mask(b, 0xEF, 0xFF)
	b.Out(0x3F9, 1, 1)
	b.Tick(int(s.bus.now))
	if s.bus.asks || s.bus.served {
		b.Push(7)
	}
	if s.bus.served {
		b.Ack()
	}
	p.Load(0, s.mem)
	return &exec.Env{Cpu: s.cpu, Mem: m, Bus: b}
}

// setUp gives both controllers their bases.
func setUp(b *bus.Bus, first, second uint32) {
	for _, out := range [][2]uint32{{0x20, 0x11}, {0x21, first}, {0x21, 4}, {0x21, 1}, {0xA0, 0x11}, {0xA1, second}, {0xA1, 2}, {0xA1, 1}} {
		b.Out(uint16(out[0]), 1, out[1])
	}
}

func mask(b *bus.Bus, first, second uint32) {
	b.Out(0x21, 1, first)
	b.Out(0xA1, 1, second)
}

// servedOf are the lines of a controller that are served.
func servedOf(b *bus.Bus, port uint16) uint32 {
	b.Out(port, 1, 0x0B)
	v, _ := b.In(port, 1)
	return v
}

// stateOf is what an environment is now.
func stateOf(e *exec.Env) state {
	p := e.Mem.Ram()
	s := state{cpu: e.Cpu, mem: p.Dump(0, p.Len())}
	s.bus = lines{now: e.Bus.Now(), asks: e.Bus.Pending(), served: servedOf(e.Bus, 0x20)&^1 == 1<<4}
	return s
}

// holds holds what is against what should be.
func (s state) holds(t *testing.T, what string, want state) {
	t.Helper()
	if s.cpu != want.cpu {
		t.Errorf("%s: %s", what, unlike(s.cpu, want.cpu))
	}
	if s.bus != want.bus {
		t.Errorf("%s: %+v; want %+v", what, s.bus, want.bus)
	}
	if bytes.Equal(s.mem, want.mem) {
		return
	}
	for n := range want.mem {
		if s.mem[n] != want.mem[n] {
			n &^= 3
			t.Errorf("%s: at %#x % x; want % x", what, n, s.mem[n:min(n+16, len(s.mem))], want.mem[n:min(n+16, len(s.mem))])
			return
		}
	}
}

// unlike tells what of a processor is not as it should be.
func unlike(is, want api.Cpu) string {
	var out []string
	differ := func(name string, a, b any) {
		if a != b {
			out = append(out, fmt.Sprintf("%s %+v; want %+v", name, a, b))
		}
	}
	hexOf := func(v uint32) string { return fmt.Sprintf("%#x", v) }
	for n := range is.R {
		differ(fmt.Sprintf("register %d", n), hexOf(is.R[n]), hexOf(want.R[n]))
	}
	differ("eip", hexOf(is.Eip), hexOf(want.Eip))
	differ("flags", hexOf(is.Flags), hexOf(want.Flags))
	for n := range is.Seg {
		differ(segmentNames[n], is.Seg[n], want.Seg[n])
	}
	differ("cr0, cr2, cr3", [3]uint32{is.Cr0, is.Cr2, is.Cr3}, [3]uint32{want.Cr0, want.Cr2, want.Cr3})
	differ("gdt, idt", [2]api.Table{is.Gdt, is.Idt}, [2]api.Table{want.Gdt, want.Idt})
	differ("tr", is.Tr, want.Tr)
	differ("shadow, halted, dead", [3]bool{is.Shadow, is.Halted, is.Dead}, [3]bool{want.Shadow, want.Halted, want.Dead})
	return strings.Join(out, ", ")
}

// made is the block of an environment's place.
func made(t *testing.T, e *exec.Env, most int) *trans.Block {
	t.Helper()
	b, err := trans.Make(e, most)
	if err != api.OK || b == nil {
		t.Fatalf("Make: %v, at %#x", err, e.Cpu.Eip)
	}
	return b
}

// ran runs a block in one environment, and steps in another that is alike: how many they were.
func ran(t *testing.T, what string, b *trans.Block, e, other *exec.Env, limit int) int {
	t.Helper()
	least, most := 1, min(limit, len(b.Insts()))
	if limit < 1 || e.Cpu.Dead {
		least, most = 0, 0
	}
	n := b.Run(e, limit)
	if n < least || n > most {
		t.Fatalf("%s: Run(%d): %d; want %d to %d", what, limit, n, least, most)
	}
	for range n {
		if step.Step(other) == api.SDead {
			t.Fatalf("%s: Run(%d): %d, behind the end", what, limit, n)
		}
	}
	nearlyAlike(t, fmt.Sprintf("%s: Run(%d), %d steps", what, limit, n), e, other)
	return n
}

// alike holds an environment against one that is as it should be.
func alike(t *testing.T, what string, e, other *exec.Env) {
	t.Helper()
	nearlyAlike(t, what, e, other)
	stateOf(e).holds(t, what, stateOf(other))
	if t.Failed() {
		t.FailNow()
	}
}

// nearlyAlike does so but for memory, which takes long.
func nearlyAlike(t *testing.T, what string, e, other *exec.Env) {
	t.Helper()
	if e.Cpu != other.Cpu || e.Bus.Now() != other.Bus.Now() || e.Bus.Pending() != other.Bus.Pending() || !bytes.Equal(e.Bus.Sent(), other.Bus.Sent()) {
		t.Fatalf("%s: time %d; want %d; %s", what, e.Bus.Now(), other.Bus.Now(), unlike(e.Cpu, other.Cpu))
	}
}

// granulesOf are the granules of places.
func granulesOf(places ...uint32) []uint32 {
	var list []uint32
	for _, at := range places {
		list = append(list, at/64*64)
	}
	slices.Sort(list)
	return slices.Compact(list)
}
