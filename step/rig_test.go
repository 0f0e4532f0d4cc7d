package step_test

import (
	"bytes"
	"encoding/hex"
	"fmt"
	"strconv"
	"strings"
	"testing"

	"drawloom/api"
	"drawloom/bus"
	"drawloom/decode"
	"drawloom/exec"
	"drawloom/ram"
	"drawloom/step"
	"drawloom/vmem"
)

// The flags, written out, so that nothing here leans on what api tells.
const (
	one = 1 << 1
	tf  = 1 << 8
	fi  = 1 << 9
	nt  = 1 << 14

	all = 0xFFFFFFFF
)

var flagNames = map[string]uint32{
	"CF": 1, "ONE": one, "PF": 1 << 2, "AF": 1 << 4, "ZF": 1 << 6, "SF": 1 << 7, "TF": tf, "IF": fi, "DF": 1 << 10, "OF": 1 << 11, "NT": nt,
}

// What a step was.
const (
	dead = iota + 1
	interrupt
	wait
	inst
	fault
)

var kinds = map[string]int{"dead": dead, "int": interrupt, "wait": wait, "inst": inst, "fault": fault}

var vectors = map[string]int{"DE": 0, "UD": 6, "DF": 8, "TS": 10, "NP": 11, "SS": 12, "GP": 13, "PF": 14}

var none = api.Fault{Vec: -1, Code: -1}

func gp(code int) api.Fault { return api.Fault{Vec: 13, Code: code} }

// Where things lie that all rigs have.
const (
	begin     = 0x100 // the program
	gdtBase   = 0x800
	idtBase   = 0xC00
	idtLimit  = 0x7FF
	taskBase  = 0x1400
	taskStack = 0x7000 // the innermost ring's

	firstTable  = 0xA000
	secondTable = 0xB000

	// Where a vector's gate leads: here, and 16 times it.
	handlers = 0x4000

	early = 5 // the time at first
)

// entry is a descriptor, as two words and as what they say.
type entry struct {
	lo, hi uint32
	d      api.Desc
}

var entries = map[uint16]entry{
	0x08: {0x0000FFFF, 0x00CF9A00, api.Desc{Limit: all, Type: 10, Present: true, Big: true}},
	0x10: {0x0000FFFF, 0x00CF9200, api.Desc{Limit: all, Type: 2, Present: true, Big: true}},
	0x18: {0x0000FFFF, 0x00CFFA00, api.Desc{Limit: all, Type: 10, Dpl: 3, Present: true, Big: true}},
	0x20: {0x0000FFFF, 0x00CFF200, api.Desc{Limit: all, Type: 2, Dpl: 3, Present: true, Big: true}},
	0x28: {0x0000FFFF, 0x00CF1200, api.Desc{Limit: all, Type: 2, Big: true}},
	0x30: {0x14000067, 0x00008B00, api.Desc{Base: taskBase, Limit: 0x67, Type: 11, System: true, Present: true}},
}

// state is all that a call can change, and what it tells.
type state struct {
	cpu  api.Cpu
	mem  []byte
	bus  lines
	kind int
}

// lines are what a bus is, as far as steps have to do with it.
type lines struct {
	now    uint64
	asks   bool // the serial port's line, of the vector 24
	served bool
}

// fresh is a flat processor of ring 0, no register like another. Of all vectors the gates lead to ring 0.
func fresh() state {
	c := api.Cpu{
		R:     [8]uint32{0xA0A1A2A3, 0xC0C1C2C3, 0xD0D1D2D3, 0xB0B1B2B3, 0x9000, 0x9100, 0x2000, 0x3000},
		Eip:   begin,
		Flags: one,
		Cr0:   1,
		Cr2:   0x22222222,
		Cr3:   firstTable,
		Gdt:   api.Table{Base: gdtBase, Limit: 0x37},
		Idt:   api.Table{Base: idtBase, Limit: idtLimit},
		Tr:    api.SegReg{Sel: 0x30, D: entries[0x30].d},
	}
	s := state{cpu: c, mem: freshMemory(), bus: lines{now: early}}
	s.setRing(0)
	return s
}

// freshMemory has no byte like its neighbours, but for the tables. Its 16 pages lie where they are without pages, may be written by users, and are marked.
var freshMemory = func() func() []byte {
	s := state{mem: make([]byte, 16*4096)}
	for n := range s.mem {
		s.mem[n] = byte(n*7 + n>>8*13 + 5)
	}
	for sel, e := range entries {
		s.lay(gdtBase+uint32(sel), e.lo, e.hi)
	}
	for vec := range uint32(256) {
		s.lay(idtBase+8*vec, 8<<16|handlers+16*vec, 0x8E00)
	}
	s.lay(taskBase+4, taskStack, 0x10)
	clear(s.mem[firstTable : secondTable+0x1000])
	s.lay(firstTable, secondTable|0x27)
	for n := range uint32(16) {
		s.lay(secondTable+4*n, n<<12|0x67)
	}
	return func() []byte { return bytes.Clone(s.mem) }
}()

// lay lays words; what lies behind the memory is lost.
func (s *state) lay(at uint32, words ...uint32) {
	for _, v := range words {
		for range 4 {
			if int(at) < len(s.mem) {
				s.mem[at] = byte(v)
			}
			v >>= 8
			at++
		}
	}
}

func (s state) clone() state {
	s.mem = bytes.Clone(s.mem)
	return s
}

// env is an environment that is just as the state says.
func (s state) env(t *testing.T) *exec.Env {
	t.Helper()
	p, err := ram.New(len(s.mem) / 4096)
	if err != api.OK {
		t.Fatal(err)
	}
	m, err := vmem.New(p, 8)
	if err != api.OK {
		t.Fatal(err)
	}
	b, err := bus.New(p, make([]byte, 512))
	if err != api.OK {
		t.Fatal(err)
	}
	setUp(b, 0x20, 0x28)
	mask(b, 0xEF, 0xFF)
	b.Out(0x3F9, 1, 1)
	b.Tick(int(s.bus.now))
	if s.bus.asks || s.bus.served {
		b.Push(7)
	}
	if s.bus.served {
		b.Ack()
	}
	p.Load(0, s.mem)
	return &exec.Env{Cpu: s.cpu, Mem: m, Bus: b}
}

// setUp gives both controllers their bases.
func setUp(b *bus.Bus, first, second uint32) {
	for _, out := range [][2]uint32{{0x20, 0x11}, {0x21, first}, {0x21, 4}, {0x21, 1}, {0xA0, 0x11}, {0xA1, second}, {0xA1, 2}, {0xA1, 1}} {
		b.Out(uint16(out[0]), 1, out[1])
	}
}

func mask(b *bus.Bus, first, second uint32) {
	b.Out(0x21, 1, first)
	b.Out(0xA1, 1, second)
}

// servedOf are the lines of a controller that are served.
func servedOf(b *bus.Bus, port uint16) uint32 {
	b.Out(port, 1, 0x0B)
	v, _ := b.In(port, 1)
	return v
}

// stateOf is what an environment is now.
func stateOf(e *exec.Env, kind int) state {
	p := e.Mem.Ram()
	s := state{cpu: e.Cpu, mem: p.Dump(0, p.Len()), kind: kind}
	s.bus = lines{now: e.Bus.Now(), asks: e.Bus.Pending(), served: servedOf(e.Bus, 0x20) == 1<<4}
	return s
}

// holds holds what is against what should be.
func (s state) holds(t *testing.T, what string, want state) {
	t.Helper()
	if s.kind != want.kind {
		t.Errorf("%s: a step of kind %d; want %d", what, s.kind, want.kind)
	}
	if s.cpu != want.cpu {
		t.Errorf("%s: %s", what, unlike(s.cpu, want.cpu))
	}
	if s.bus != want.bus {
		t.Errorf("%s: %+v; want %+v", what, s.bus, want.bus)
	}
	if bytes.Equal(s.mem, want.mem) {
		return
	}
	for n := range want.mem {
		if s.mem[n] != want.mem[n] {
			n &^= 3
			t.Errorf("%s: at %#x % x; want % x", what, n, s.mem[n:min(n+16, len(s.mem))], want.mem[n:min(n+16, len(s.mem))])
			return
		}
	}
}

// unlike tells what of a processor is not as it should be.
func unlike(is, want api.Cpu) string {
	var out []string
	differ := func(name string, a, b any) {
		if a != b {
			out = append(out, fmt.Sprintf("%s %+v; want %+v", name, a, b))
		}
	}
	hexOf := func(v uint32) string { return fmt.Sprintf("%#x", v) }
	for n := range is.R {
		differ(fmt.Sprintf("register %d", n), hexOf(is.R[n]), hexOf(want.R[n]))
	}
	differ("eip", hexOf(is.Eip), hexOf(want.Eip))
	differ("flags", hexOf(is.Flags), hexOf(want.Flags))
	for n := range is.Seg {
		differ(segmentNames[n], is.Seg[n], want.Seg[n])
	}
	differ("cr0, cr2, cr3", [3]uint32{is.Cr0, is.Cr2, is.Cr3}, [3]uint32{want.Cr0, want.Cr2, want.Cr3})
	differ("gdt, idt", [2]api.Table{is.Gdt, is.Idt}, [2]api.Table{want.Gdt, want.Idt})
	differ("tr", is.Tr, want.Tr)
	differ("shadow, halted, dead", [3]bool{is.Shadow, is.Halted, is.Dead}, [3]bool{want.Shadow, want.Halted, want.Dead})
	return strings.Join(out, ", ")
}

// row is what is ahead of a step, what it was, and what is then: terms, told apart by spaces; all numbers are hexadecimal.
//
//	eax=5 eip=5 esp=5 cr0=5 ..   registers
//	set=TF+IF clr=ONE flags=5    these flags are set, or not, the others are as they were; all of them
//	in=3                         all segment registers are those of that ring
//	fs=13                        a segment register as if loaded by that selector; null, if below 4
//	fs.base=5 limit absent       what is other of it
//	gate=3:8:6030:8E00           a vector's gate: selector, place, and the second word's lower half
//	100:B844332211               bytes in memory, at a linear address
//	words=8FF4:100,8,@           words there; @ are Flags as they were at first
//	by=105                       Eip is this, and Shadow is not set
//	soft=80:102                  what a delivery of that vector does, with that place as Eip
//	#GP(18) #DE #PF(6,5000)      what the delivery of that fault does: code, Cr2
//	asks served quiet            the serial port's line waits, is served, neither
//	shadow noshadow halted dying
type row struct{ before, kind, after string }

// begun is how the processor's flags and marks were at first, where a row says nothing of them.
type begun struct {
	flags  uint32
	shadow bool
}

func someBegun() []begun {
	return []begun{{one, true}, {0, false}, {all &^ nt, true}, {one | fi | tf, false}}
}

// run does a row by a call.
func (x row) run(t *testing.T, call string, do func(e *exec.Env) int, b begun) {
	t.Helper()
	before := fresh()
	before.cpu.Flags, before.cpu.Shadow = b.flags, b.shadow
	before.apply(x.before, before.cpu.Flags)
	want := before.clone()
	want.kind = kinds[x.kind]
	if want.kind != dead {
		want.bus.now++
	}
	want.apply(x.after, before.cpu.Flags)
	// Twice: it hangs on the environment alone.
	for range 2 {
		e := before.env(t)
		kind := do(e)
		stateOf(e, kind).holds(t, fmt.Sprintf("%s, of %q with Flags %#x", call, x.before, before.cpu.Flags), want)
	}
}

// finish does the instruction that stands at Eip, where there are no pages.
func finish(e *exec.Env) int {
	x, err := decode.Decode(e.Mem.Ram().Dump(e.Cpu.Eip, 16))
	if err != api.OK {
		panic(err)
	}
	return step.Finish(e, x)
}

// runSteps does rows by Step.
func runSteps(t *testing.T, rows []row) {
	t.Helper()
	for _, x := range rows {
		for _, b := range someBegun() {
			x.run(t, "Step", step.Step, b)
		}
	}
}

// runBoth does rows by Step, and by Finish: of a processor that does an instruction these are one.
func runBoth(t *testing.T, rows []row) {
	t.Helper()
	runSteps(t, rows)
	for _, x := range rows {
		for _, b := range someBegun() {
			x.run(t, "Finish", finish, b)
		}
	}
}

// program is the environment of some bytes at begin, and of what a row says ahead.
func program(t *testing.T, before, code string) *exec.Env {
	t.Helper()
	s := fresh()
	s.apply(before, s.cpu.Flags)
	s.apply(fmt.Sprintf("%x:%s", begin, code), 0)
	return s.env(t)
}

func number(s string) uint32 {
	n, err := strconv.ParseUint(s, 16, 32)
	if err != nil {
		panic(s)
	}
	return uint32(n)
}

func flagsOf(s string) uint32 {
	f := uint32(0)
	for _, name := range strings.Split(s, "+") {
		bit, is := flagNames[name]
		if !is {
			panic(s)
		}
		f |= bit
	}
	return f
}

func faultOf(term string) api.Fault {
	name, rest, _ := strings.Cut(term[1:], "(")
	vector, is := vectors[name]
	if !is {
		panic(term)
	}
	f := api.Fault{Vec: vector, Code: -1}
	if rest != "" {
		code, cr2, paged := strings.Cut(strings.TrimSuffix(rest, ")"), ",")
		f.Code = int(number(code))
		if paged {
			f.Cr2 = number(cr2)
		}
	}
	return f
}

// apply makes a state what terms say; flags are what @ stands for.
func (s *state) apply(terms string, flags uint32) {
	for _, term := range strings.Fields(terms) {
		name, value, _ := strings.Cut(term, "=")
		at, laid, isMemory := strings.Cut(term, ":")
		switch {
		case term[0] == '#':
			f := faultOf(term)
			if f.Vec == 14 {
				s.cpu.Cr2 = f.Cr2
			}
			s.deliver(f.Vec, f.Code)
		case s.setMemory(name, value, flags):
		case isMemory:
			b, err := hex.DecodeString(laid)
			if err != nil {
				panic(term)
			}
			copy(s.mem[number(at):], b)
		case s.setFlag(name, value) || s.setSegment(name, value) || s.setMark(name, value):
		default:
			s.setRegister(name, value)
		}
	}
}

// deliver is what a delivery does that goes well, by a gate to ring 0 and of kind 14, where nothing is other than in fresh.
func (s *state) deliver(vec, code int) {
	c := &s.cpu
	pushed := []uint32{c.Flags, uint32(c.Seg[api.Cs].Sel), c.Eip}
	if c.Seg[api.Cs].Sel&3 != 0 {
		pushed = append([]uint32{uint32(c.Seg[api.Ss].Sel), c.R[api.Esp]}, pushed...)
		c.R[api.Esp] = taskStack
		c.Seg[api.Ss] = api.SegReg{Sel: 0x10, D: entries[0x10].d}
	}
	if code >= 0 {
		pushed = append(pushed, uint32(code))
	}
	for _, v := range pushed {
		c.R[api.Esp] -= 4
		s.lay(c.R[api.Esp], v)
	}
	c.Seg[api.Cs] = api.SegReg{Sel: 8, D: entries[8].d}
	c.Eip = uint32(handlers + 16*vec)
	c.Flags &^= tf | nt | fi
	c.Shadow, c.Halted = false, false
}

func (s *state) setMemory(name, value string, flags uint32) bool {
	at, rest, _ := strings.Cut(value, ":")
	var list []uint32
	for _, v := range strings.FieldsFunc(rest, func(r rune) bool { return r == ',' || r == ':' }) {
		if v == "@" {
			list = append(list, flags)
		} else {
			list = append(list, number(v))
		}
	}
	switch name {
	case "gate":
		s.lay(s.cpu.Idt.Base+8*number(at), list[0]<<16|list[1]&0xFFFF, list[1]&0xFFFF0000|list[2])
	case "words":
		s.lay(number(at), list...)
	case "soft":
		s.cpu.Eip = list[0]
		s.deliver(int(number(at)), -1)
	default:
		return false
	}
	return true
}

func (s *state) setFlag(name, value string) bool {
	f := &s.cpu.Flags
	switch name {
	case "set":
		*f |= flagsOf(value)
	case "clr":
		*f &^= flagsOf(value)
	case "flags":
		*f = number(value)
	default:
		return false
	}
	return true
}

func (s *state) setMark(name, value string) bool {
	switch name {
	case "by":
		s.cpu.Eip, s.cpu.Shadow = number(value), false
	case "shadow":
		s.cpu.Shadow = true
	case "noshadow":
		s.cpu.Shadow = false
	case "halted":
		s.cpu.Halted = true
	case "dying":
		s.cpu.Dead = true
	case "asks":
		s.bus.asks = true
	case "quiet":
		s.bus.asks, s.bus.served = false, false
	case "served":
		s.bus.asks, s.bus.served = false, true
	default:
		return false
	}
	return true
}

var segmentNames = []string{"es", "cs", "ss", "ds", "fs", "gs"}

func (s *state) setSegment(name, value string) bool {
	if name == "in" {
		s.setRing(uint16(number(value)))
		return true
	}
	name, part, _ := strings.Cut(name, ".")
	for n, other := range segmentNames {
		if name == other {
			setPart(&s.cpu.Seg[n], part, value)
			return true
		}
	}
	return false
}

func setPart(r *api.SegReg, part, value string) {
	switch part {
	case "":
		sel := uint16(number(value))
		*r = api.SegReg{Sel: sel, D: entries[sel&^7].d}
		if sel < 4 {
			*r = api.SegReg{Sel: sel, Null: true}
		}
	case "base":
		r.D.Base = number(value)
	case "limit":
		r.D.Limit = number(value)
	case "absent":
		r.D.Present = false
	default:
		panic(part)
	}
}

// setRing makes all six segment registers those of a ring, 0 or 3.
func (s *state) setRing(ring uint16) {
	for n := range s.cpu.Seg {
		sel := uint16(0x10)
		if n == api.Cs {
			sel = 0x08
		}
		if ring == 3 {
			sel += 0x10
		}
		s.cpu.Seg[n] = api.SegReg{Sel: sel | ring, D: entries[sel].d}
	}
}

func (s *state) setRegister(name, value string) {
	v := number(value)
	for n, other := range []string{"eax", "ecx", "edx", "ebx", "esp", "ebp", "esi", "edi"} {
		if name == other {
			s.cpu.R[n] = v
			return
		}
	}
	switch name {
	case "eip":
		s.cpu.Eip = v
	case "cr0":
		s.cpu.Cr0 = v
	case "cr2":
		s.cpu.Cr2 = v
	case "idt.base":
		s.cpu.Idt.Base = v
	case "idt.limit":
		s.cpu.Idt.Limit = uint16(v)
	default:
		panic(name)
	}
}
