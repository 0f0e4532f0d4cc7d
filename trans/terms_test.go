package trans_test

import (
	"encoding/binary"
	"encoding/hex"
	"fmt"
	"strconv"
	"strings"
	"testing"

	"drawloom/api"
	"drawloom/exec"
)

// The flags, written out, so that nothing here leans on what api tells.
const (
	one = 1 << 1
	fi  = 1 << 9

	all = 0xFFFFFFFF
)

var flagNames = map[string]uint32{"CF": 1, "ONE": one, "ZF": 1 << 6, "TF": 1 << 8, "IF": fi, "DF": 1 << 10, "OF": 1 << 11, "NT": 1 << 14}

// apply makes a state what terms say, told apart by spaces; all numbers are hexadecimal.
//
//	eax=5 eip=5 esp=5 cr0=5 ..   registers
//	set=TF+IF clr=DF             these flags are set, or not
//	in=3                         all segment registers are those of that ring
//	fs=13                        a segment register as if loaded by that selector; null, if below 4
//	cs.base=5 cs.limit=5         what is other of it
//	gate=3:8:6030:8E00           a vector's gate: selector, place, and the second word's lower half
//	100:B844332211               bytes in memory, at a linear address
//	words=8FF4:100,8             words there
//	page=5:7:25                  the word of a page: the frame, and its lower bits
//	paged                        pages are on
//	asks shadow halted dying
func (s *state) apply(terms string) {
	for _, term := range strings.Fields(terms) {
		name, value, _ := strings.Cut(term, "=")
		at, laid, isMemory := strings.Cut(term, ":")
		switch {
		case s.setMemory(name, value):
		case isMemory:
			b, err := hex.DecodeString(laid)
			if err != nil {
				panic(term)
			}
			copy(s.mem[number(at):], b)
		case s.setMark(name, value) || s.setSegment(name, value):
		default:
			s.setRegister(name, value)
		}
	}
}

func (s *state) setMemory(name, value string) bool {
	at, rest, _ := strings.Cut(value, ":")
	var list []uint32
	for _, v := range strings.FieldsFunc(rest, func(r rune) bool { return r == ',' || r == ':' }) {
		list = append(list, number(v))
	}
	switch name {
	case "gate":
		s.lay(s.cpu.Idt.Base+8*number(at), list[0]<<16|list[1]&0xFFFF, list[1]&0xFFFF0000|list[2])
	case "words":
		s.lay(number(at), list...)
	case "page":
		s.lay(secondTable+4*number(at), list[0]<<12|list[1])
	default:
		return false
	}
	return true
}

func (s *state) setMark(name, value string) bool {
	switch name {
	case "set":
		s.cpu.Flags |= flagsOf(value)
	case "clr":
		s.cpu.Flags &^= flagsOf(value)
	case "shadow":
		s.cpu.Shadow = true
	case "halted":
		s.cpu.Halted = true
	case "dying":
		s.cpu.Dead = true
	case "asks":
		s.bus.asks = true
	case "paged":
		s.cpu.Cr0 |= 1 << 31
	default:
		return false
	}
	return true
}

var segmentNames = []string{"es", "cs", "ss", "ds", "fs", "gs"}

func (s *state) setSegment(name, value string) bool {
	if name == "in" {
		s.setRing(uint16(number(value)))
		return true
	}
	name, part, _ := strings.Cut(name, ".")
	for n, other := range segmentNames {
		if name == other {
			setPart(&s.cpu.Seg[n], part, value)
			return true
		}
	}
	return false
}

func setPart(r *api.SegReg, part, value string) {
	switch part {
	case "":
		sel := uint16(number(value))
		*r = api.SegReg{Sel: sel, D: entries[sel&^7].d}
		if sel < 4 {
			*r = api.SegReg{Sel: sel, Null: true}
		}
	case "base":
		r.D.Base = number(value)
	case "limit":
		r.D.Limit = number(value)
	default:
		panic(part)
	}
}

// setRing makes all six segment registers those of a ring, 0 or 3.
func (s *state) setRing(ring uint16) {
	for n := range s.cpu.Seg {
		sel := uint16(0x10)
		if n == api.Cs {
			sel = 0x08
		}
		if ring == 3 {
			sel += 0x10
		}
		s.cpu.Seg[n] = api.SegReg{Sel: sel | ring, D: entries[sel].d}
	}
}

func (s *state) setRegister(name, value string) {
	v := number(value)
	for n, other := range []string{"eax", "ecx", "edx", "ebx", "esp", "ebp", "esi", "edi"} {
		if name == other {
			s.cpu.R[n] = v
			return
		}
	}
	switch name {
	case "eip":
		s.cpu.Eip = v
	case "cr0":
		s.cpu.Cr0 = v
	case "cr3":
		s.cpu.Cr3 = v
	case "idt.limit":
		s.cpu.Idt.Limit = uint16(v)
	default:
		panic(name)
	}
}

func number(s string) uint32 {
	n, err := strconv.ParseUint(s, 16, 32)
	if err != nil {
		panic(s)
	}
	return uint32(n)
}

func flagsOf(s string) uint32 {
	f := uint32(0)
	for _, name := range strings.Split(s, "+") {
		bit, is := flagNames[name]
		if !is {
			panic(s)
		}
		f |= bit
	}
	return f
}

// withCode is a fresh state with some bytes at begin, and what terms say.
func withCode(before, code string) state {
	s := fresh()
	s.apply(fmt.Sprintf("%x:%s", begin, code))
	s.apply(before)
	return s
}

func program(t *testing.T, before, code string) *exec.Env {
	t.Helper()
	return withCode(before, code).env(t)
}

// change makes an environment, while it lives, what terms say.
func change(e *exec.Env, terms string) {
	s := stateOf(e)
	asked := s.bus.asks
	s.apply(terms)
	e.Cpu = s.cpu
	e.Mem.Ram().Load(0, s.mem)
	if s.bus.asks && !asked {
		e.Bus.Push(9)
	}
}

// layCode lays bytes where the processor has them as code.
func (s *state) layCode(off uint32, code string) {
	b, err := hex.DecodeString(code)
	if err != nil {
		panic(code)
	}
	for n, v := range b {
		s.mem[s.place(s.cpu.Seg[api.Cs].D.Base+off+uint32(n))] = v
	}
}

// place is where a linear address lies.
func (s *state) place(lin uint32) uint32 {
	if s.cpu.Cr0>>31 == 0 {
		return lin
	}
	word := func(at uint32) uint32 { return binary.LittleEndian.Uint32(s.mem[at:]) }
	table := word(s.cpu.Cr3&^0xFFF + lin>>22*4)
	return word(table&^0xFFF+lin>>12&1023*4)&^0xFFF + lin&0xFFF
}

// tableTerms are states whose code lies in tables, so that marks change it.
var tableTerms = []string{
	// At a page's end, in the word of the next one: what is fetched ahead of the mark is 81 C3, a sum, and A1 C3 behind it.
	"paged words=BFF8:B007,C381 C000:11224041EB00 eip=3FEFFC",
	"paged words=BFF8:B027,C381 C000:11224041EB00 eip=3FEFFC",
	"paged words=BFF8:B027,C3A1 C000:11224041EB00 eip=3FEFFC",
	"paged words=BFF4:40000000,B007,C381 C000:11224041EB00 eip=3FEFF7",
	// The same, with a byte in the next page: 05, and 25.
	"paged words=BFF8:B007,C005 C000:224041EB00 eip=3FEFFC",
	"paged words=BFF8:B027,C025 C000:224041EB00 eip=3FEFFC",
	// The same by the word of the next page's table.
	"paged words=AFF8:C007,D081 words=CFFC:A007 words=D000:E007 E000:11224041EB00 eip=FFBFFFFC",
	"paged words=AFF8:C027,D081 words=CFFC:A027 words=D000:E027 E000:11224041EB00 eip=FFBFFFFC",
	// In the word of its own page: it is marked when the first byte is read.
	"paged words=BFF8:B081,41EB4040 eip=3FEFF8",
	"paged words=BFF8:B0A1,41EB4040 eip=3FEFF8",
	"paged words=BFF4:40000000,B081,41EB4040 eip=3FEFF7",
	"paged words=BFF4:40404000,B081,41EB4040 eip=3FEFF5",
	"paged words=A000:B007 eip=A000",
	"paged words=A000:B027 eip=A000",
	// The table is its own.
	"paged words=A000:A007 eip=0",
	"paged words=A000:A081 eip=0",
	"paged words=A000:A0A1 eip=0",
}
