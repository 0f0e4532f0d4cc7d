package exec_test

import (
	"bytes"
	"encoding/hex"
	"fmt"
	"strconv"
	"strings"
	"testing"

	"drawloom/api"
	"drawloom/bus"
	"drawloom/decode"
	"drawloom/exec"
	"drawloom/ram"
	"drawloom/vmem"
)

// The flags, written out, so that nothing here leans on what api tells.
const (
	cf = 1 << 0
	pf = 1 << 2
	af = 1 << 4
	zf = 1 << 6
	sf = 1 << 7
	tf = 1 << 8
	fi = 1 << 9
	df = 1 << 10
	of = 1 << 11
	nt = 1 << 14

	iopl3  = 3 << 12
	one    = 1 << 1
	status = cf | pf | af | zf | sf | of
)

var flagNames = map[string]uint32{
	"CF": cf, "PF": pf, "AF": af, "ZF": zf, "SF": sf, "TF": tf, "IF": fi, "DF": df, "OF": of, "NT": nt, "ONE": one,
	"-": 0,
}

var vectors = map[string]int{"DE": 0, "UD": 6, "NP": 11, "SS": 12, "GP": 13, "PF": 14}

var none = exec.Outcome{F: api.Fault{Vec: -1, Code: -1}, Soft: -1}

// gdtBase is where the table lies that all rigs have; gdtLimit is its last byte.
const (
	gdtBase  = 0x800
	gdtLimit = 0xC7
)

// entry is a descriptor, as two words and as what they say, both written out.
type entry struct {
	lo, hi uint32
	d      api.Desc
}

const all = 0xFFFFFFFF

// entries are the table's, each at its selector.
func entries() map[uint16]entry {
	const present, big = true, true
	return map[uint16]entry{
		0x08: {0x0000FFFF, 0x00CF9A00, api.Desc{Limit: all, Type: 10, Present: present, Big: big}},
		0x10: {0x0000FFFF, 0x00CF9200, api.Desc{Limit: all, Type: 2, Present: present, Big: big}},
		0x18: {0x0000FFFF, 0x00CFFA00, api.Desc{Limit: all, Type: 10, Dpl: 3, Present: present, Big: big}},
		0x20: {0x0000FFFF, 0x00CFF200, api.Desc{Limit: all, Type: 2, Dpl: 3, Present: present, Big: big}},
		0x28: {0x0000FFFF, 0x00CF9000, api.Desc{Limit: all, Type: 0, Present: present, Big: big}},
		0x30: {0x0000FFFF, 0x00CF1200, api.Desc{Limit: all, Type: 2, Big: big}},
		0x38: {0x0000FFFF, 0x00CF9E00, api.Desc{Limit: all, Type: 14, Present: present, Big: big}},
		0x40: {0x0000FFFF, 0x00CF9800, api.Desc{Limit: all, Type: 8, Present: present, Big: big}},
		0x48: {0x0000FFFF, 0x00CF1A00, api.Desc{Limit: all, Type: 10, Big: big}},
		0x50: {0x10002FFF, 0x00409A00, api.Desc{Base: 0x1000, Limit: 0x2FFF, Type: 10, Present: present, Big: big}},
		0x58: {0x0000FFFF, 0x008F9A00, api.Desc{Limit: all, Type: 10, Present: present}},
		0x60: {0x60000067, 0x12008900, api.Desc{Base: 0x12006000, Limit: 0x67, Type: 9, System: true, Present: present}},
		0x68: {0x60000067, 0x00008B00, api.Desc{Base: 0x6000, Limit: 0x67, Type: 11, System: true, Present: present}},
		0x70: {0x60000067, 0x00000900, api.Desc{Base: 0x6000, Limit: 0x67, Type: 9, System: true}},
		0x78: {0x60000067, 0x00008200, api.Desc{Base: 0x6000, Limit: 0x67, Type: 2, System: true, Present: present}},
		0x80: {0x0000FFFF, 0x00CFFE00, api.Desc{Limit: all, Type: 14, Dpl: 3, Present: present, Big: big}},
		0x88: {0x0000FFFF, 0x00CFB200, api.Desc{Limit: all, Type: 2, Dpl: 1, Present: present, Big: big}},
		0x90: {0x0000FFFF, 0x00CFF600, api.Desc{Limit: all, Type: 6, Dpl: 3, Present: present, Big: big}},
		0x98: {0x0000FFFF, 0x00CF9900, api.Desc{Limit: all, Type: 9, Present: present, Big: big}},
		0xA0: {0x00080000, 0x00008C00, api.Desc{Base: 0x0008, Limit: 0, Type: 12, System: true, Present: present}},
		0xA8: {0x60000067, 0x00000B00, api.Desc{Base: 0x6000, Limit: 0x67, Type: 11, System: true}},
		0xB0: {0x0000FFFF, 0x00CF1E00, api.Desc{Limit: all, Type: 14, Big: big}},
		0xB8: {0x0000FFFF, 0x00CF7200, api.Desc{Limit: all, Type: 2, Dpl: 3, Big: big}},
		0xC0: {0x30000FFF, 0x80409200, api.Desc{Base: 0x80003000, Limit: 0xFFF, Type: 2, Present: present, Big: big}},
	}
}

// state is all that an instruction can change but what the bus does, and what it ends with.
type state struct {
	cpu api.Cpu
	mem []byte
	out exec.Outcome
}

// fresh is a flat processor of ring 0, no register like another.
func fresh() state {
	c := api.Cpu{
		R:     [8]uint32{0xA0A1A2A3, 0xC0C1C2C3, 0xD0D1D2D3, 0xB0B1B2B3, 0x9000, 0x9100, 0x2000, 0x3000},
		Eip:   0x100,
		Flags: one,
		Cr0:   1,
		Cr2:   0x22222222,
		Cr3:   0x33333333,
		Gdt:   api.Table{Base: gdtBase, Limit: gdtLimit},
		Idt:   api.Table{Base: 0x11111111, Limit: 0x1D7},
		Tr:    api.SegReg{Sel: 0x74, D: api.Desc{Base: 0x77777777, Limit: 0x77, Type: 11, System: true, Present: true}},
	}
	for n := range c.Seg {
		c.Seg[n] = api.SegReg{Sel: 0x10, D: entries()[0x10].d}
	}
	c.Seg[1] = api.SegReg{Sel: 0x08, D: entries()[0x08].d}
	return state{cpu: c, mem: freshMemory(), out: none}
}

// freshMemory has no byte like its neighbours, but for the table.
var freshMemory = func() func() []byte {
	s := state{mem: make([]byte, 16*4096)}
	for n := range s.mem {
		s.mem[n] = byte(n*7 + n>>8*13 + 5)
	}
	for sel, e := range entries() {
		s.lay(gdtBase+uint32(sel), word(e.lo)...)
		s.lay(gdtBase+uint32(sel)+4, word(e.hi)...)
	}
	return func() []byte { return bytes.Clone(s.mem) }
}()

func word(v uint32) []byte { return []byte{byte(v), byte(v >> 8), byte(v >> 16), byte(v >> 24)} }

func (s *state) lay(at uint32, b ...byte) { copy(s.mem[at:], b) }

func (s state) clone() state {
	s.mem = bytes.Clone(s.mem)
	return s
}

// env is an environment that is just as the state says.
func (s state) env(t *testing.T) *exec.Env {
	t.Helper()
	p, err := ram.New(16)
	if err != api.OK {
		t.Fatal(err)
	}
	m, err := vmem.New(p, 8)
	if err != api.OK {
		t.Fatal(err)
	}
	b, err := bus.New(p, nil)
	if err != api.OK {
		t.Fatal(err)
	}
	p.Load(0, s.mem)
	return &exec.Env{Cpu: s.cpu, Mem: m, Bus: b}
}

// stateOf is what an environment is now.
func stateOf(e *exec.Env, out exec.Outcome) state {
	p := e.Mem.Ram()
	return state{cpu: e.Cpu, mem: p.Dump(0, p.Len()), out: out}
}

// holds holds what is against what should be.
func (s state) holds(t *testing.T, what string, want state) {
	t.Helper()
	if s.out != want.out {
		t.Errorf("%s: ended with %+v; want %+v", what, s.out, want.out)
	}
	if s.cpu != want.cpu {
		t.Errorf("%s: %s", what, unlike(s.cpu, want.cpu))
	}
	if bytes.Equal(s.mem, want.mem) {
		return
	}
	for n := range want.mem {
		if s.mem[n] != want.mem[n] {
			t.Errorf("%s: at %#x % x; want % x", what, n, s.mem[n:min(n+8, len(s.mem))], want.mem[n:min(n+8, len(s.mem))])
			return
		}
	}
}

// unlike tells what of a processor is not as it should be.
func unlike(is, want api.Cpu) string {
	var out []string
	for n, name := range []string{"eax", "ecx", "edx", "ebx", "esp", "ebp", "esi", "edi"} {
		if is.R[n] != want.R[n] {
			out = append(out, fmt.Sprintf("%s %#x; want %#x", name, is.R[n], want.R[n]))
		}
	}
	is.R = want.R
	if is.Eip != want.Eip || is.Flags != want.Flags {
		out = append(out, fmt.Sprintf("eip %#x flags %#x; want %#x, %#x", is.Eip, is.Flags, want.Eip, want.Flags))
	}
	is.Eip, is.Flags = want.Eip, want.Flags
	if is != want {
		out = append(out, fmt.Sprintf("%+v; want %+v", is, want))
	}
	return strings.Join(out, ", ")
}

func bytesOf(code string) []byte {
	b, err := hex.DecodeString(strings.ReplaceAll(code, " ", ""))
	if err != nil {
		panic(code)
	}
	return b
}

func inst(t *testing.T, b []byte) api.Inst {
	t.Helper()
	x, err := decode.Decode(b)
	if err != api.OK || x.Len != len(b) {
		t.Fatalf("% x: %d bytes, error %d", b, x.Len, err)
	}
	return x
}

// row is an instruction's bytes, what is ahead of it, and what is behind it: terms, told apart by spaces.
//
//	eax=5 bh=5 eip=5 cr0=5   registers; all numbers are hexadecimal
//	f=CF+ZF  f=-             of CF, PF, AF, ZF, SF, OF just these are set
//	set=DF+IF clr=ONE        these are set, or not, the others are as they were
//	iopl=2 ring=3            these bits of Flags, of the Sel of CS
//	2000:11223344            bytes in memory, at a linear address
//	fs=13                    a segment register (or tr) as if loaded by that selector
//	fs.base=5 limit type dpl null absent   what is other of it
//	#GP(18) #DE #PF(6,5000)  a fault, code, Cr2; the processor is as it was
//	soft=80 iret shadow halted
type row struct{ code, before, after string }

func (x row) run(t *testing.T) {
	t.Helper()
	x.runOf(t, fresh)
}

// runOf does the row with two processors: of one no flag is set that the row does not name, of the other one all are.
func (x row) runOf(t *testing.T, begin func() state) {
	t.Helper()
	for _, others := range []uint32{0, all} {
		before := begin()
		before.cpu.Flags |= others
		before.cpu.Shadow = others == 0
		before.apply(x.before)
		x.runFrom(t, before)
	}
}

func (x row) runFrom(t *testing.T, before state) {
	t.Helper()
	b := bytesOf(x.code)
	want := before.clone()
	want.cpu.Eip += uint32(len(b))
	want.cpu.Shadow = false
	want.apply(x.after)
	if want.out.F != none.F {
		want.cpu = before.cpu
	}
	// Twice: it hangs on the environment and the instruction alone.
	for range 2 {
		e := before.env(t)
		out := exec.Do(e, inst(t, b))
		stateOf(e, out).holds(t, fmt.Sprintf("%s, of %q with Flags %#x", x.code, x.before, before.cpu.Flags), want)
	}
}

func runAll(t *testing.T, rows []row) {
	t.Helper()
	for _, x := range rows {
		x.run(t)
	}
}

// runPaged is runAll with pages.
func runPaged(t *testing.T, rows []row) {
	t.Helper()
	for _, x := range rows {
		x.runOf(t, paged)
	}
}

// Where the tables of pages lie.
const (
	firstTable  = 0xA000
	secondTable = 0xB000
)

// paged is fresh with 16 pages, each where it is without them, which may be written by users and are marked: the word of the page n lies at secondTable and 4 times n.
func paged() state {
	s := fresh()
	s.cpu.Cr0, s.cpu.Cr3 = 0x80000001, firstTable
	clear(s.mem[firstTable : secondTable+0x1000])
	s.lay(firstTable, word(secondTable|0x27)...)
	for n := range uint32(16) {
		s.lay(secondTable+4*n, word(n<<12|0x67)...)
	}
	return s
}

func number(s string) uint32 {
	n, err := strconv.ParseUint(s, 16, 32)
	if err != nil {
		panic(s)
	}
	return uint32(n)
}

func flagsOf(s string) uint32 {
	f := uint32(0)
	for _, name := range strings.Split(s, "+") {
		bit, is := flagNames[name]
		if !is {
			panic(s)
		}
		f |= bit
	}
	return f
}

func (s *state) apply(terms string) {
	for _, term := range strings.Fields(terms) {
		name, value, _ := strings.Cut(term, "=")
		at, laid, isMemory := strings.Cut(term, ":")
		switch {
		case term[0] == '#':
			s.fault(term)
		case isMemory:
			s.lay(number(at), bytesOf(laid)...)
		case s.setRegister(name, value) || s.setFlag(name, value) || s.setSegment(name, value):
		default:
			s.setOther(name, value)
		}
	}
}

func (s *state) fault(term string) {
	name, rest, _ := strings.Cut(term[1:], "(")
	vector, is := vectors[name]
	if !is {
		panic(term)
	}
	s.out.F = api.Fault{Vec: vector, Code: -1}
	if rest != "" {
		code, cr2, paged := strings.Cut(strings.TrimSuffix(rest, ")"), ",")
		s.out.F.Code = int(number(code))
		if paged {
			s.out.F.Cr2 = number(cr2)
		}
	}
}

var wideNames = []string{"eax", "ecx", "edx", "ebx", "esp", "ebp", "esi", "edi"}
var halfNames = []string{"ax", "cx", "dx", "bx", "sp", "bp", "si", "di"}
var byteNames = []string{"al", "cl", "dl", "bl", "ah", "ch", "dh", "bh"}

func (s *state) setRegister(name, value string) bool {
	for n := range 8 {
		switch name {
		case wideNames[n]:
			s.cpu.R[n] = number(value)
		case halfNames[n]:
			s.cpu.R[n] = s.cpu.R[n]/0x10000*0x10000 + number(value)
		case byteNames[n]:
			if n < 4 {
				s.cpu.R[n] = s.cpu.R[n]/0x100*0x100 + number(value)
			} else {
				s.cpu.R[n-4] = s.cpu.R[n-4]/0x10000*0x10000 + number(value)*0x100 + s.cpu.R[n-4]%0x100
			}
		default:
			continue
		}
		return true
	}
	return false
}

func (s *state) setFlag(name, value string) bool {
	f := &s.cpu.Flags
	switch name {
	case "f":
		*f = *f&^status | flagsOf(value)
	case "set":
		*f |= flagsOf(value)
	case "clr":
		*f &^= flagsOf(value)
	case "iopl":
		*f = *f&^iopl3 | number(value)<<12
	case "flags":
		*f = number(value)
	default:
		return false
	}
	return true
}

var segmentNames = []string{"es", "cs", "ss", "ds", "fs", "gs"}

func (s *state) setSegment(name, value string) bool {
	name, part, _ := strings.Cut(name, ".")
	var r *api.SegReg
	for n, other := range segmentNames {
		if name == other {
			r = &s.cpu.Seg[n]
		}
	}
	if name == "tr" {
		r = &s.cpu.Tr
	}
	if r == nil {
		return false
	}
	switch part {
	case "":
		sel := uint16(number(value))
		*r = api.SegReg{Sel: sel, D: entries()[sel&^7].d}
		if sel < 4 {
			*r = api.SegReg{Sel: sel, Null: true}
		}
	case "base":
		r.D.Base = number(value)
	case "limit":
		r.D.Limit = number(value)
	case "type":
		r.D.Type = int(number(value))
	case "dpl":
		r.D.Dpl = int(number(value))
	case "null":
		r.Null = true
	case "absent":
		r.D.Present = false
	default:
		panic(part)
	}
	return true
}

func (s *state) setOther(name, value string) {
	switch name {
	case "eip":
		s.cpu.Eip = number(value)
	case "cr0":
		s.cpu.Cr0 = number(value)
	case "cr2":
		s.cpu.Cr2 = number(value)
	case "cr3":
		s.cpu.Cr3 = number(value)
	case "gdt.base":
		s.cpu.Gdt.Base = number(value)
	case "gdt.limit":
		s.cpu.Gdt.Limit = uint16(number(value))
	case "idt.base":
		s.cpu.Idt.Base = number(value)
	case "idt.limit":
		s.cpu.Idt.Limit = uint16(number(value))
	case "ring":
		s.cpu.Seg[1].Sel = s.cpu.Seg[1].Sel&^3 | uint16(number(value))
	case "soft":
		s.out.Soft = int(number(value))
	case "iret":
		s.out.Iret = true
	case "shadow":
		s.cpu.Shadow = true
	case "halted":
		s.cpu.Halted = true
	default:
		panic(name)
	}
}
