package except_test

import (
	"bytes"
	"encoding/hex"
	"fmt"
	"strconv"
	"strings"
	"testing"

	"drawloom/api"
	"drawloom/bus"
	"drawloom/except"
	"drawloom/exec"
	"drawloom/ram"
	"drawloom/vmem"
)

// The flags, written out, so that nothing here leans on what api tells.
const (
	one = 1 << 1
	tf  = 1 << 8
	fi  = 1 << 9
	nt  = 1 << 14

	iopl3 = 3 << 12
	all   = 0xFFFFFFFF
)

var flagNames = map[string]uint32{
	"CF": 1, "ONE": one, "PF": 1 << 2, "AF": 1 << 4, "ZF": 1 << 6, "SF": 1 << 7, "TF": tf, "IF": fi, "DF": 1 << 10, "OF": 1 << 11, "NT": nt,
}

var vectors = map[string]int{"DE": 0, "UD": 6, "DF": 8, "TS": 10, "NP": 11, "SS": 12, "GP": 13, "PF": 14}

var none = api.Fault{Vec: -1, Code: -1}

func gp(code int) api.Fault { return api.Fault{Vec: 13, Code: code} }

// Where the tables lie that all rigs have.
const (
	gdtBase   = 0x800
	gdtLimit  = 0xBF
	idtBase   = 0xC00
	idtLimit  = 0x7FF
	taskBase  = 0x1400
	taskLimit = 0x67
)

// entry is a descriptor, as two words and as what they say, both written out.
type entry struct {
	lo, hi uint32
	d      api.Desc
}

// entries are the table's, each at its selector.
func entries() map[uint16]entry {
	const present, big = true, true
	return map[uint16]entry{
		0x08: {0x0000FFFF, 0x00CF9A00, api.Desc{Limit: all, Type: 10, Present: present, Big: big}},
		0x10: {0x0000FFFF, 0x00CF9200, api.Desc{Limit: all, Type: 2, Present: present, Big: big}},
		0x18: {0x0000FFFF, 0x00CFBA00, api.Desc{Limit: all, Type: 10, Dpl: 1, Present: present, Big: big}},
		0x20: {0x0000FFFF, 0x00CFB200, api.Desc{Limit: all, Type: 2, Dpl: 1, Present: present, Big: big}},
		0x28: {0x0000FFFF, 0x00CFDA00, api.Desc{Limit: all, Type: 10, Dpl: 2, Present: present, Big: big}},
		0x30: {0x0000FFFF, 0x00CFD200, api.Desc{Limit: all, Type: 2, Dpl: 2, Present: present, Big: big}},
		0x38: {0x0000FFFF, 0x00CFFA00, api.Desc{Limit: all, Type: 10, Dpl: 3, Present: present, Big: big}},
		0x40: {0x0000FFFF, 0x00CFF200, api.Desc{Limit: all, Type: 2, Dpl: 3, Present: present, Big: big}},
		0x48: {0x0000FFFF, 0x00CF9E00, api.Desc{Limit: all, Type: 14, Present: present, Big: big}},
		0x50: {0x0000FFFF, 0x00CFBE00, api.Desc{Limit: all, Type: 14, Dpl: 1, Present: present, Big: big}},
		0x58: {0x0000FFFF, 0x00CFDC00, api.Desc{Limit: all, Type: 12, Dpl: 2, Present: present, Big: big}},
		0x60: {0x0000FFFF, 0x00CFFF00, api.Desc{Limit: all, Type: 15, Dpl: 3, Present: present, Big: big}},
		0x68: {0x20002FFF, 0x00409900, api.Desc{Base: 0x2000, Limit: 0x2FFF, Type: 9, Present: present, Big: big}},
		0x70: {0x0000FFFF, 0x00CF9000, api.Desc{Limit: all, Type: 0, Present: present, Big: big}},
		0x78: {0x00006FDF, 0x00409600, api.Desc{Limit: 0x6FDF, Type: 6, Present: present, Big: big}},
		0x80: {0x00000FFF, 0x00409300, api.Desc{Limit: 0xFFF, Type: 3, Present: present, Big: big}},
		0x88: {0x14000067, 0x00008B00, api.Desc{Base: 0x1400, Limit: 0x67, Type: 11, System: true, Present: present}},
		0x90: {0x30000FFF, 0x80409200, api.Desc{Base: 0x80003000, Limit: 0xFFF, Type: 2, Present: present, Big: big}},
		0x98: {0x0000FFFF, 0x00CFF800, api.Desc{Limit: all, Type: 8, Dpl: 3, Present: present, Big: big}},
		0xA0: {0x20002FFF, 0x0040FA00, api.Desc{Base: 0x2000, Limit: 0x2FFF, Type: 10, Dpl: 3, Present: present, Big: big}},
		0xA8: {0x0000FFFF, 0x008FF200, api.Desc{Limit: all, Type: 2, Dpl: 3, Present: present}},
		0xB0: {0x0000FFFF, 0x00CF7200, api.Desc{Limit: all, Type: 2, Dpl: 3, Big: big}},
		0xB8: {0x0000FFFF, 0x00CFD400, api.Desc{Limit: all, Type: 4, Dpl: 2, Present: present, Big: big}},
	}
}

// state is all that a call can change, and the fault that it tells.
type state struct {
	cpu api.Cpu
	mem []byte
	f   api.Fault
}

// fresh is a flat processor of ring 0, no register like another. Of the vectors 3 alone has a gate; the task has a stack for each inner ring.
func fresh() state {
	c := api.Cpu{
		R:     [8]uint32{0xA0A1A2A3, 0xC0C1C2C3, 0xD0D1D2D3, 0xB0B1B2B3, 0x9000, 0x9100, 0x2000, 0x3000},
		Eip:   0x100,
		Flags: one,
		Cr0:   1,
		Cr2:   0x22222222,
		Cr3:   0x33333333,
		Gdt:   api.Table{Base: gdtBase, Limit: gdtLimit},
		Idt:   api.Table{Base: idtBase, Limit: idtLimit},
		Tr:    api.SegReg{Sel: 0x8B, D: api.Desc{Base: taskBase, Limit: taskLimit, Type: 11, System: true, Present: true}},
	}
	for n := range c.Seg {
		c.Seg[n] = api.SegReg{Sel: 0x10, D: entries()[0x10].d}
	}
	c.Seg[api.Cs] = api.SegReg{Sel: 0x08, D: entries()[0x08].d}
	return state{cpu: c, mem: freshMemory(), f: none}
}

// freshMemory has no byte like its neighbours, but for the tables.
var freshMemory = func() func() []byte {
	s := state{mem: make([]byte, 16*4096)}
	for n := range s.mem {
		s.mem[n] = byte(n*7 + n>>8*13 + 5)
	}
	clear(s.mem[gdtBase : gdtBase+gdtLimit+1])
	clear(s.mem[idtBase : idtBase+idtLimit+1])
	for sel, e := range entries() {
		s.lay(gdtBase+uint32(sel), e.lo, e.hi)
	}
	s.lay(idtBase+8*3, 0x00086030, 0x00008E00)
	s.lay(taskBase+4, 0x7000, 0xFEDC0010, 0x7400, 0xFEDC0021, 0x7800, 0xFEDC0032)
	return func() []byte { return bytes.Clone(s.mem) }
}()

// lay lays words; those that lie behind the memory are lost.
func (s *state) lay(at uint32, words ...uint32) {
	for _, v := range words {
		for range 4 {
			s.layByte(at, byte(v))
			v >>= 8
			at++
		}
	}
}

func (s *state) layByte(at uint32, b byte) {
	if int(at) < len(s.mem) {
		s.mem[at] = b
	}
}

func (s *state) layHalves(at uint32, halves ...uint32) {
	for _, v := range halves {
		s.layByte(at, byte(v))
		s.layByte(at+1, byte(v>>8))
		at += 2
	}
}

func (s state) clone() state {
	s.mem = bytes.Clone(s.mem)
	return s
}

// env is an environment that is just as the state says.
func (s state) env(t *testing.T) *exec.Env {
	t.Helper()
	p, err := ram.New(len(s.mem) / 4096)
	if err != api.OK {
		t.Fatal(err)
	}
	m, err := vmem.New(p, 8)
	if err != api.OK {
		t.Fatal(err)
	}
	b, err := bus.New(p, nil)
	if err != api.OK {
		t.Fatal(err)
	}
	p.Load(0, s.mem)
	return &exec.Env{Cpu: s.cpu, Mem: m, Bus: b}
}

// stateOf is what an environment is now.
func stateOf(e *exec.Env, f api.Fault) state {
	p := e.Mem.Ram()
	return state{cpu: e.Cpu, mem: p.Dump(0, p.Len()), f: f}
}

// holds holds what is against what should be.
func (s state) holds(t *testing.T, what string, want state) {
	t.Helper()
	if s.f != want.f {
		t.Errorf("%s: %+v; want %+v", what, s.f, want.f)
	}
	if s.cpu != want.cpu {
		t.Errorf("%s: %s", what, unlike(s.cpu, want.cpu))
	}
	if bytes.Equal(s.mem, want.mem) {
		return
	}
	for n := range want.mem {
		if s.mem[n] != want.mem[n] {
			n &^= 3
			t.Errorf("%s: at %#x % x; want % x", what, n, s.mem[n:min(n+16, len(s.mem))], want.mem[n:min(n+16, len(s.mem))])
			return
		}
	}
}

// unlike tells what of a processor is not as it should be.
func unlike(is, want api.Cpu) string {
	var out []string
	differ := func(name string, a, b any) {
		if a != b {
			out = append(out, fmt.Sprintf("%s %+v; want %+v", name, a, b))
		}
	}
	hexOf := func(v uint32) string { return fmt.Sprintf("%#x", v) }
	for n := range is.R {
		differ(fmt.Sprintf("register %d", n), hexOf(is.R[n]), hexOf(want.R[n]))
	}
	differ("eip", hexOf(is.Eip), hexOf(want.Eip))
	differ("flags", hexOf(is.Flags), hexOf(want.Flags))
	for n := range is.Seg {
		differ(segmentNames[n], is.Seg[n], want.Seg[n])
	}
	differ("cr0", is.Cr0, want.Cr0)
	differ("cr2", hexOf(is.Cr2), hexOf(want.Cr2))
	differ("cr3", is.Cr3, want.Cr3)
	differ("gdt", is.Gdt, want.Gdt)
	differ("idt", is.Idt, want.Idt)
	differ("tr", is.Tr, want.Tr)
	differ("shadow, halted, dead", [3]bool{is.Shadow, is.Halted, is.Dead}, [3]bool{want.Shadow, want.Halted, want.Dead})
	return strings.Join(out, ", ")
}

// row is a call, what is ahead of it, and what is behind it: terms, told apart by spaces; all numbers are hexadecimal.
//
//	enter 3 / enter 3 soft code=5 / return 4 / fault #PF(2,1234)
//
//	eax=5 eip=5 esp=5 cr0=5 ..   registers
//	set=TF+IF clr=ONE flags=5    these flags are set, or not, the others are as they were; all of them
//	iopl=2 ring=3                these bits of Flags, of the Sel of CS
//	in=3                         CS, SS and the four others are those of a ring
//	fs=13                        a segment register (or tr) as if loaded by that selector; null, if below 4
//	fs.base=5 limit type dpl null absent system   what is other of it
//	gate=3:8:6030:8E00           a vector's gate: selector, place, and the second word's lower half
//	2000:11223344                bytes in memory, at a linear address
//	words=8FF4:100,8,@           words there; @ are Flags as they were at first
//	stack=8FF4:100,8,@           the same, and ESP is that
//	halves=8FFA:100,8,@          likewise, each of them two bytes
//	to14=6030 to15=6030          what is then said of all gates of a kind
//	back=100                     what is then said of all that is gone back to; Flags are those that were popped
//	#GP(18) #DE #PF(6,5000)      a fault, code, Cr2; the processor is as it was
//	shadow halted dead
type row struct{ call, before, after string }

// begun is how the processor's flags and marks were at first, where a row says nothing of them.
type begun struct {
	flags  uint32
	marked bool
}

func (x row) run(t *testing.T) {
	t.Helper()
	x.runOf(t, fresh)
}

func (x row) runOf(t *testing.T, begin func() state) {
	t.Helper()
	for _, b := range []begun{{one, true}, {0, false}, {all, true}, {one | fi | tf, false}} {
		before := begin()
		before.cpu.Flags = b.flags
		if strings.HasPrefix(x.call, "return") {
			before.cpu.Flags &^= nt
		}
		before.cpu.Shadow, before.cpu.Halted, before.cpu.Dead = b.marked, b.marked, b.marked && b.flags == all
		before.apply(x.before, before.cpu.Flags)
		x.runFrom(t, before)
	}
}

func (x row) runFrom(t *testing.T, before state) {
	t.Helper()
	want := before.clone()
	want.apply(x.after, before.cpu.Flags)
	if want.f != none {
		want.cpu = before.cpu
	}
	// Twice: it hangs on the environment alone.
	for range 2 {
		e := before.env(t)
		f := do(e, x.call)
		stateOf(e, f).holds(t, fmt.Sprintf("%s, of %q with Flags %#x", x.call, x.before, before.cpu.Flags), want)
	}
}

// do does a call.
func do(e *exec.Env, call string) api.Fault {
	name, rest, _ := strings.Cut(call, " ")
	switch name {
	case "enter":
		vec, rest, _ := strings.Cut(rest, " ")
		code, soft := -1, false
		for _, term := range strings.Fields(rest) {
			if v, is := strings.CutPrefix(term, "code="); is {
				code = int(number(v))
			} else {
				soft = term == "soft"
			}
		}
		return except.Enter(e, int(number(vec)), code, soft)
	case "return":
		return except.Return(e, int(number(rest)))
	case "fault":
		except.Fault(e, faultOf(rest))
		return none
	}
	panic(call)
}

func runAll(t *testing.T, rows []row) {
	t.Helper()
	for _, x := range rows {
		x.run(t)
	}
}

// runPaged is runAll with pages.
func runPaged(t *testing.T, rows []row) {
	t.Helper()
	for _, x := range rows {
		x.runOf(t, paged)
	}
}

// Where the tables of pages lie.
const (
	firstTable  = 0xA000
	secondTable = 0xB000
)

// paged is fresh with 16 pages, each where it is without them, which may be written by users and are marked: the word of the page n lies at secondTable and 4 times n.
func paged() state {
	s := fresh()
	s.cpu.Cr0, s.cpu.Cr3 = 0x80000001, firstTable
	clear(s.mem[firstTable : secondTable+0x1000])
	s.lay(firstTable, secondTable|0x27)
	for n := range uint32(16) {
		s.lay(secondTable+4*n, n<<12|0x67)
	}
	return s
}

func number(s string) uint32 {
	n, err := strconv.ParseUint(s, 16, 32)
	if err != nil {
		panic(s)
	}
	return uint32(n)
}

func flagsOf(s string) uint32 {
	f := uint32(0)
	for _, name := range strings.Split(s, "+") {
		bit, is := flagNames[name]
		if !is {
			panic(s)
		}
		f |= bit
	}
	return f
}

func faultOf(term string) api.Fault {
	name, rest, _ := strings.Cut(term[1:], "(")
	vector, is := vectors[name]
	if !is {
		vector = int(number(name))
	}
	f := api.Fault{Vec: vector, Code: -1}
	if rest != "" {
		code, cr2, paged := strings.Cut(strings.TrimSuffix(rest, ")"), ",")
		f.Code = int(number(code))
		if paged {
			f.Cr2 = number(cr2)
		}
	}
	return f
}

// apply makes a state what terms say; flags are what @ stands for.
func (s *state) apply(terms string, flags uint32) {
	for _, term := range strings.Fields(terms) {
		name, value, _ := strings.Cut(term, "=")
		at, laid, isMemory := strings.Cut(term, ":")
		switch {
		case term[0] == '#':
			s.f = faultOf(term)
		case s.setMemory(name, value, flags):
		case isMemory:
			b, err := hex.DecodeString(laid)
			if err != nil {
				panic(term)
			}
			copy(s.mem[number(at):], b)
		case s.setFlag(name, value) || s.setSegment(name, value) || s.setTurn(name, value) || s.setMark(name):
		default:
			s.setRegister(name, value)
		}
	}
}

func (s *state) setMemory(name, value string, flags uint32) bool {
	at, rest, _ := strings.Cut(value, ":")
	var list []uint32
	for _, v := range strings.FieldsFunc(rest, func(r rune) bool { return r == ',' || r == ':' }) {
		if v == "@" {
			list = append(list, flags)
		} else {
			list = append(list, number(v))
		}
	}
	switch name {
	case "gate":
		lo, hi := list[0]<<16|list[1]&0xFFFF, list[1]&0xFFFF0000|list[2]
		s.lay(s.cpu.Idt.Base+8*number(at), lo, hi)
	case "words":
		s.lay(number(at), list...)
	case "stack":
		s.lay(number(at), list...)
		s.cpu.R[api.Esp] = number(at)
	case "halves":
		s.layHalves(number(at), list...)
		s.cpu.R[api.Esp] = number(at)
	default:
		return false
	}
	return true
}

func (s *state) setFlag(name, value string) bool {
	f := &s.cpu.Flags
	switch name {
	case "set":
		*f |= flagsOf(value)
	case "clr":
		*f &^= flagsOf(value)
	case "iopl":
		*f = *f&^iopl3 | number(value)<<12
	case "flags":
		*f = number(value)
	default:
		return false
	}
	return true
}

// setTurn is what a delivery, or its end, does each time.
func (s *state) setTurn(name, value string) bool {
	switch name {
	case "to14":
		s.cpu.Flags &^= tf | nt | fi
		s.cpu.Shadow, s.cpu.Halted = false, false
	case "to15":
		s.cpu.Flags &^= tf | nt
		s.cpu.Shadow, s.cpu.Halted = false, false
	case "back":
		s.cpu.Flags |= one
		s.cpu.Shadow = false
	default:
		return false
	}
	s.cpu.Eip = number(value)
	return true
}

func (s *state) setMark(name string) bool {
	switch name {
	case "shadow":
		s.cpu.Shadow = true
	case "halted":
		s.cpu.Halted = true
	case "dead":
		s.cpu.Dead = true
	default:
		return false
	}
	return true
}

var segmentNames = []string{"es", "cs", "ss", "ds", "fs", "gs"}

func (s *state) setSegment(name, value string) bool {
	if name == "in" {
		s.setRing(uint16(number(value)))
		return true
	}
	name, part, _ := strings.Cut(name, ".")
	var r *api.SegReg
	for n, other := range segmentNames {
		if name == other {
			r = &s.cpu.Seg[n]
		}
	}
	if name == "tr" {
		r = &s.cpu.Tr
	}
	if r == nil {
		return false
	}
	setPart(r, part, value)
	return true
}

func setPart(r *api.SegReg, part, value string) {
	switch part {
	case "":
		sel := uint16(number(value))
		*r = api.SegReg{Sel: sel, D: entries()[sel&^7].d}
		if sel < 4 {
			*r = api.SegReg{Sel: sel, Null: true}
		}
	case "base":
		r.D.Base = number(value)
	case "limit":
		r.D.Limit = number(value)
	case "type":
		n, err := strconv.ParseInt(value, 16, 64)
		if err != nil {
			panic(value)
		}
		r.D.Type = int(n)
	case "dpl":
		r.D.Dpl = int(number(value))
	case "null":
		r.Null = true
	case "absent":
		r.D.Present = false
	case "system":
		r.D.System = true
	default:
		panic(part)
	}
}

// setRing makes all six segment registers those of a ring.
func (s *state) setRing(ring uint16) {
	for n := range s.cpu.Seg {
		sel := 0x10 + 0x10*ring
		if n == api.Cs {
			sel -= 8
		}
		s.cpu.Seg[n] = api.SegReg{Sel: sel | ring, D: entries()[sel].d}
	}
}

func (s *state) setRegister(name, value string) {
	v := number(value)
	for n, other := range []string{"eax", "ecx", "edx", "ebx", "esp", "ebp", "esi", "edi"} {
		if name == other {
			s.cpu.R[n] = v
			return
		}
	}
	switch name {
	case "eip":
		s.cpu.Eip = v
	case "cr0":
		s.cpu.Cr0 = v
	case "cr2":
		s.cpu.Cr2 = v
	case "gdt.base":
		s.cpu.Gdt.Base = v
	case "gdt.limit":
		s.cpu.Gdt.Limit = uint16(v)
	case "idt.base":
		s.cpu.Idt.Base = v
	case "idt.limit":
		s.cpu.Idt.Limit = uint16(v)
	case "ring":
		s.cpu.Seg[api.Cs].Sel = s.cpu.Seg[api.Cs].Sel&^3 | uint16(v)
	default:
		panic(name)
	}
}
