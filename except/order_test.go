package except_test

import (
	"fmt"
	"slices"
	"testing"

	"drawloom/api"
	"drawloom/except"
	"drawloom/exec"
)

// A scene is all that a delivery and its end look at, each word of it in a page of its own: the words of a gate and of descriptors lie across the ends of pages. Pages are marked from the beginning, so that only what is pushed changes memory.
type scene struct {
	ring, inner int // the ring, and that of the code that is entered, or gone back to
	soft        bool
	vec, size   int
	nt          bool

	idtLimit, gdtLimit uint16
	gateLo, gateHi     uint32
	codeLo, codeHi     uint32
	stackLo, stackHi   uint32
	taskLimit          uint32
	newEsp, newSs      uint32

	slots    [5]uint32 // what lies on the stack
	outside  int       // the first one that lies behind the segment's Limit
	unpaged  int       // the first one that lies in a page that is not there
	absent   [16]bool  // pages
	readOnly [16]bool
}

// Where a scene's parts lie.
const (
	sceneCode  = 0x0FF8 // selectors
	sceneStack = 0x2FF8
	sceneTask  = 0x1230

	gatePage, codePage, stackPage, taskPage = 3, 5, 7, 9 // each begins there, and goes on in the next one
	newPage, oldPage                        = 0xB, 0xD
)

const endOfGates = gatePage*0x1000 + 0x1000

func newScene(ring, inner int) *scene {
	s := &scene{ring: ring, inner: inner, soft: false, vec: 77, size: 4}
	s.idtLimit, s.gdtLimit = 77*8+7, sceneStack+7
	s.gateLo, s.gateHi = sceneCode<<16|0x5678, 0x1234EE00
	s.codeLo, s.codeHi = 0x0000FFFF, 0x00CF9A00|uint32(inner)<<13
	s.stackLo, s.stackHi = 0x0000FFFF, 0x00CF9200|uint32(inner)<<13
	s.taskLimit = 4 + 8*uint32(inner) + 7
	s.newEsp, s.newSs = newPage*0x1000+0x1008, sceneStack|uint32(inner)
	s.outside, s.unpaged = len(s.slots), len(s.slots)
	s.slots = [5]uint32{0x12345678, sceneCode | uint32(inner), one, newPage*0x1000 + 0x1008, sceneStack | uint32(inner)}
	return s
}

// state is the scene in a rig's memory, which is wiped first.
func (s *scene) state(mem []byte) state {
	clear(mem)
	r := state{mem: mem, f: none}
	esp, limit := s.stack()
	r.lay(0x1000, 0x2067)
	for n := range uint32(16) {
		word := n<<12 | 0x67
		if s.readOnly[n] {
			word &^= 2
		}
		if s.absent[n] {
			word &^= 1
		}
		r.lay(0x2000+4*n, word)
	}
	c := api.Cpu{Eip: 0x100, Flags: one, Cr0: 0x80010001, Cr3: 0x1000}
	if s.nt {
		c.Flags |= nt
	}
	for n := range c.Seg {
		c.Seg[n] = api.SegReg{Sel: 0x100 | uint16(s.ring), D: api.Desc{Limit: all, Type: 2, Dpl: s.ring, Present: true, Big: true}}
	}
	c.Seg[api.Cs].D.Type = 10
	c.Seg[api.Ss].D.Limit = limit
	c.R[api.Esp] = esp
	c.Idt = api.Table{Base: endOfGates - 4 - 8*77, Limit: s.idtLimit}
	c.Gdt = api.Table{Base: 0x5004, Limit: s.gdtLimit}
	c.Tr = api.SegReg{Sel: sceneTask, D: api.Desc{Base: taskPage*0x1000 + 0x1000 - 4 - 4 - 8*uint32(s.inner), Limit: s.taskLimit}}
	r.lay(endOfGates-4, s.gateLo, s.gateHi)
	r.lay(0x5FFC, s.codeLo, s.codeHi)
	r.lay(0x7FFC, s.stackLo, s.stackHi)
	r.lay(0x9FFC, s.newEsp, s.newSs)
	if s.size == 2 {
		r.layHalves(esp, s.slots[:]...)
	} else {
		r.lay(esp, s.slots[:]...)
	}
	r.cpu = c
	return r
}

// stack is ESP, and SS' Limit, such that just those slots can't be read.
func (s *scene) stack() (esp, limit uint32) {
	esp, limit = endOfOld-0x800, all
	if s.unpaged < len(s.slots) {
		esp = endOfOld - uint32(s.unpaged*s.size)
		s.absent[oldPage+1] = true
	}
	if s.outside < len(s.slots) {
		limit = esp + uint32(s.outside*s.size+s.size-2)
	}
	return esp, limit
}

// question is one of those that are asked one after the other: what makes it hold, and what is answered then.
type question struct {
	name  string
	holds func(s *scene)
	f     api.Fault
}

func pageFault(code int, cr2 uint32) api.Fault { return api.Fault{Vec: 14, Code: code, Cr2: cr2} }

func gone(page int) func(s *scene) { return func(s *scene) { s.absent[page] = true } }

// aboutGates are P18.1's first list; x as there.
func aboutGates(ring, x int) []question {
	code := 8*77 + 2 + x
	list := []question{
		{"no vector", func(s *scene) { s.vec = 256 }, gp(0)},
		{"no vector", func(s *scene) { s.vec = -1 }, gp(0)},
		{"Idt's Limit", func(s *scene) { s.idtLimit = 77*8 + 6 }, gp(code)},
		{"the gate's first page", gone(gatePage), pageFault(0, endOfGates-4)},
		{"the gate's second page", gone(gatePage + 1), pageFault(0, endOfGates)},
		{"kind 13", func(s *scene) { s.gateHi = s.gateHi&^0x1F00 | 0xD00 }, gp(code)},
		{"kind 12", func(s *scene) { s.gateHi = s.gateHi&^0x1F00 | 0xC00 }, gp(code)},
		{"kind 30", func(s *scene) { s.gateHi |= 0x1000 }, gp(code)},
	}
	if x == 0 && ring > 0 {
		list = append(list, question{"the gate's ring", func(s *scene) { s.gateHi = s.gateHi&^0x6000 | uint32(ring-1)<<13 }, gp(code)})
	}
	return append(list, question{"the gate is absent", func(s *scene) { s.gateHi &^= 0x8000 }, api.Fault{Vec: 11, Code: code}})
}

// aboutCode are P18.1's second list.
func aboutCode(ring, x int) []question {
	list := []question{
		{"null", func(s *scene) { s.gateLo &= 0xFFFF }, gp(x)},
		{"null", func(s *scene) { s.gateLo = s.gateLo&0xFFFF | 3<<16 }, gp(x)},
		{"local", func(s *scene) { s.gateLo |= 4 << 16 }, gp(sceneCode + 4 + x)},
		{"Gdt's Limit", func(s *scene) { s.gdtLimit = sceneCode + 6 }, gp(sceneCode + x)},
		{"the code's first page", gone(codePage), pageFault(0, 0x5FFC)},
		{"the code's second page", gone(codePage + 1), pageFault(0, 0x6000)},
		{"a system's", func(s *scene) { s.codeHi &^= 0x1000 }, gp(sceneCode + x)},
		{"data", func(s *scene) { s.codeHi &^= 0x800 }, gp(sceneCode + x)},
		{"not Big", func(s *scene) { s.codeHi &^= 0x400000 }, gp(sceneCode + x)},
	}
	if ring < 3 {
		list = append(list, question{"Dpl above the ring", func(s *scene) { s.codeHi = s.codeHi&^0x6000 | uint32(ring+1)<<13 }, gp(sceneCode + x)})
	}
	return append(list,
		question{"the code is absent", func(s *scene) { s.codeHi &^= 0x8000 }, api.Fault{Vec: 11, Code: sceneCode + x}},
		question{"the place", func(s *scene) { s.gateLo, s.gateHi, s.codeHi = s.gateLo|0xFFFF, s.gateHi|0xFFFF0000, s.codeHi&^0x80000 }, gp(x)})
}

// aboutStacks are what is asked of another stack's segment: v is the vector of what it can't be, s.newSs and s.slots[4] tell it.
func aboutStacks(inner, v, x int) []question {
	ts := func(code int) api.Fault { return api.Fault{Vec: v, Code: code} }
	ss := func(to uint32) func(s *scene) {
		return func(s *scene) { s.newSs, s.slots[4] = to, to }
	}
	right := sceneStack | uint32(inner)
	return []question{
		{"SS null", ss(0), ts(x)},
		{"SS null", ss(uint32(inner)), ts(x)},
		{"SS local", ss(right | 4), ts(sceneStack + 4 + x)},
		{"SS behind Gdt's Limit", func(s *scene) { s.gdtLimit = sceneStack + 6 }, ts(sceneStack + x)},
		{"the stack's first page", gone(stackPage), pageFault(0, 0x7FFC)},
		{"the stack's second page", gone(stackPage + 1), pageFault(0, 0x8000)},
		{"SS asks for another ring", ss(right ^ 1), ts(sceneStack + x)},
		{"SS asks for another ring", ss(right ^ 2), ts(sceneStack + x)},
		{"SS of another Dpl", func(s *scene) { s.stackHi ^= 0x2000 }, ts(sceneStack + x)},
		{"SS of another Dpl", func(s *scene) { s.stackHi ^= 0x4000 }, ts(sceneStack + x)},
		{"SS of a system", func(s *scene) { s.stackHi &^= 0x1000 }, ts(sceneStack + x)},
		{"SS is code", func(s *scene) { s.stackHi |= 0x800 }, ts(sceneStack + x)},
		{"SS only read", func(s *scene) { s.stackHi &^= 0x200 }, ts(sceneStack + x)},
		{"SS absent", func(s *scene) { s.stackHi &^= 0x8000 }, api.Fault{Vec: 12, Code: sceneStack + x}},
	}
}

func aboutTasks(ring, inner, x int) []question {
	list := []question{
		{"Tr's Limit", func(s *scene) { s.taskLimit-- }, api.Fault{Vec: 10, Code: sceneTask + x}},
		{"the task's first page", gone(taskPage), pageFault(0, 0x9FFC)},
		{"the task's second page", gone(taskPage + 1), pageFault(0, 0xA000)},
	}
	list = append(list, aboutStacks(inner, 10, x)...)
	return append(list,
		question{"pushing behind the segment", func(s *scene) { s.stackLo, s.stackHi = 0, s.stackHi&^0xF0000 }, api.Fault{Vec: 12}},
		question{"pushing into what is absent", gone(newPage), pageFault(2, 0xBFFC)},
		question{"pushing into what is only read", func(s *scene) { s.readOnly[newPage] = true }, pageFault(3, 0xBFFC)})
}

// aboutReturns are P18.3's list.
func aboutReturns(ring, outer, size int) []question {
	user := 0
	if ring == 3 {
		user = 4
	}
	page := func(n int) func(s *scene) { return func(s *scene) { s.unpaged = n } }
	limit := func(n int) func(s *scene) { return func(s *scene) { s.outside = n } }
	missing, out := pageFault(user, endOfOld), api.Fault{Vec: 12}
	list := []question{
		{"the size", func(s *scene) { s.size = 3 }, gp(0)},
		{"NT", func(s *scene) { s.nt = true }, gp(0)},
		{"no place", limit(0), out}, {"no place's page", page(0), missing},
		{"no selector", limit(1), out}, {"no selector's page", page(1), missing},
		{"no flags", limit(2), out}, {"no flags' page", page(2), missing},
		{"null", func(s *scene) { s.slots[1] = 0 }, gp(0)},
		{"null", func(s *scene) { s.slots[1] = uint32(outer) }, gp(0)},
		{"local", func(s *scene) { s.slots[1] |= 4 }, gp(sceneCode + 4)},
	}
	if ring > 0 {
		list = append(list, question{"the ring", func(s *scene) { s.slots[1] = sceneCode | uint32(ring-1) }, gp(sceneCode)})
	}
	list = append(list, []question{
		{"Gdt's Limit", func(s *scene) { s.gdtLimit = sceneCode + 6 }, gp(sceneCode)},
		{"the code's first page", gone(codePage), pageFault(0, 0x5FFC)},
		{"the code's second page", gone(codePage + 1), pageFault(0, 0x6000)},
		{"a system's", func(s *scene) { s.codeHi &^= 0x1000 }, gp(sceneCode)},
		{"data", func(s *scene) { s.codeHi &^= 0x800 }, gp(sceneCode)},
		{"not Big", func(s *scene) { s.codeHi &^= 0x400000 }, gp(sceneCode)},
		{"another Dpl", func(s *scene) { s.codeHi ^= 0x2000 }, gp(sceneCode)},
		{"another Dpl", func(s *scene) { s.codeHi ^= 0x4000 }, gp(sceneCode)},
		{"the code is absent", func(s *scene) { s.codeHi &^= 0x8000 }, api.Fault{Vec: 11, Code: sceneCode}},
	}...)
	if outer > ring {
		list = append(list, question{"no ESP", limit(3), out}, question{"no ESP's page", page(3), missing}, question{"no SS", limit(4), out}, question{"no SS' page", page(4), missing})
		list = append(list, aboutStacks(outer, 13, 0)...)
	}
	return append(list, question{"the place", func(s *scene) { s.slots[0], s.codeLo, s.codeHi = 0xFFFF, 0xFFFE, s.codeHi&^0x8F0000 }, gp(0)})
}

const endOfOld = oldPage*0x1000 + 0x1000

// inOrder asks each question alone, with each later one, and with all later ones: the first one that holds is answered, and the processor is as it was.
func inOrder(t *testing.T, what string, list []question, begin func() *scene, call func(e *exec.Env, s *scene) api.Fault) {
	t.Helper()
	mem := make([]byte, 16*4096)
	e := begin().state(mem).env(t)
	ask := func(questions ...question) {
		s, want, names := begin(), none, ""
		for _, q := range slices.Backward(questions) {
			q.holds(s)
			want, names = q.f, q.name+", "+names
		}
		was := s.state(mem)
		e.Mem.Flush()
		e.Mem.Ram().Load(0, mem)
		e.Cpu = was.cpu
		if f := call(e, s); f != want {
			t.Errorf("%s: %s%+v; want %+v", what, names, f, want)
		}
		if want != none && e.Cpu != was.cpu {
			t.Errorf("%s: %s%s", what, names, unlike(e.Cpu, was.cpu))
		}
	}
	ask()
	for n, q := range list {
		ask(q)
		ask(list[n:]...)
		for _, later := range list[n+1:] {
			ask(q, later)
		}
	}
}

// P18.1: each question of the three lists, alone and with the next ones.
func TestOrderOfEnter(t *testing.T) {
	for ring := range 4 {
		for inner := 0; inner <= ring; inner++ {
			for x, soft := range []bool{true, false} {
				list := append(aboutGates(ring, x), aboutCode(ring, x)...)
				if inner < ring {
					list = append(list, aboutTasks(ring, inner, x)...)
				}
				begin := func() *scene {
					s := newScene(ring, inner)
					s.soft = soft
					return s
				}
				inOrder(t, fmt.Sprintf("from ring %d to %d, soft %v", ring, inner, soft), list, begin, func(e *exec.Env, s *scene) api.Fault {
					return except.Enter(e, s.vec, 9, s.soft)
				})
			}
		}
	}
}

// P18.3: each question of the list, alone and with the next ones.
func TestOrderOfReturn(t *testing.T) {
	for ring := range 4 {
		for outer := ring; outer < 4; outer++ {
			for _, size := range []int{2, 4} {
				begin := func() *scene {
					s := newScene(ring, outer)
					s.size = size
					return s
				}
				inOrder(t, fmt.Sprintf("from ring %d to %d, size %d", ring, outer, size), aboutReturns(ring, outer, size), begin, func(e *exec.Env, s *scene) api.Fault {
					return except.Return(e, s.size)
				})
			}
		}
	}
}
