package trans_test

import (
	"fmt"
	"math/rand"
	"testing"

	"drawloom/api"
	"drawloom/exec"
	"drawloom/step"
	"drawloom/trans"
)

// pieces are what random programs are made of.
var pieces = [][]byte{
	{0x40}, {0x4B}, {0x01, 0xD8}, {0x50}, {0x5B}, {0x9C}, {0x9D}, {0xFA}, {0xFB}, {0xF4}, {0xCC}, {0xCE}, {0xCF}, {0xCD, 0x80}, {0xCD, 0x24},
	{0x0F, 0x0B}, {0xF7, 0xF3}, {0x8E, 0xD0}, {0x8E, 0xD8}, {0x17}, {0xEB, 0x02}, {0xEB, 0xF0}, {0xE8, 1, 0, 0, 0}, {0xC3}, {0xF3, 0xAA}, {0xA4},
	{0xA3, 0x10, 0x01, 0, 0}, {0xA1, 0, 0x50, 0, 0}, {0xC6, 0x05, 0x20, 0x01, 0, 0, 0x40}, {0xB0, 0x20}, {0xE6, 0x20}, {0xE4, 0x40}, {0x66, 0x90},
	{0xB8, 0x10, 0, 0, 0}, {0xB9, 3, 0, 0, 0}, {0x61}, {0x60}, {0x66, 0x66, 0x66}, {0x0F, 0x22, 0xD8}, {0x0F, 0x20, 0xC0}, {0x8D, 0x24, 0x25, 0, 0x90, 0, 0},
	{0xC6, 0x05, 0x02, 0x50, 0, 0, 0x41}, {0x74, 0x03}, {0x75, 0xF5}, {0xE2, 0xF7}, {0xA3, 0x14, 0xB0, 0, 0}, {0x0F, 0x22, 0xC0},
}

// randomProgram is a state whose memory is full of pieces, at its place and at those of its gates.
func randomProgram(r *rand.Rand) state {
	s := fresh()
	if r.Intn(2) == 0 {
		s.apply("paged")
		s.lay(secondTable+4*5, uint32(r.Intn(16))<<12|uint32(r.Intn(8)))
	}
	if r.Intn(3) == 0 {
		s.setRing(3)
	}
	s.cpu.Flags = one | uint32(r.Intn(2))*fi | uint32(r.Intn(4))<<12
	s.cpu.R[api.Ecx], s.cpu.R[api.Eax], s.cpu.R[api.Edi] = uint32(r.Intn(6)), uint32(r.Intn(8))*8, uint32(0x100+r.Intn(0x40))
	fill := func(from, to int) {
		for at := from; at < to; {
			at += copy(s.mem[at:to], pieces[r.Intn(len(pieces))])
		}
	}
	fill(begin, begin+0x80)
	fill(handlers, handlers+0x1800)
	if r.Intn(4) == 0 {
		s.cpu.Eip = handlers + 0x1000 - uint32(r.Intn(20))
	}
	return s
}

// shaken does the same thing to environments that are alike, out of their programs' ways.
func shaken(r *rand.Rand, list ...*exec.Env) {
	kind, at, word, piece := r.Intn(8), uint32(begin+r.Intn(0x80)), uint32(r.Intn(16))<<12|uint32(r.Intn(8))|1, pieces[r.Intn(len(pieces))]
	for _, e := range list {
		switch kind {
		case 0:
			e.Mem.Ram().Load(at, piece)
		case 1:
			e.Mem.Ram().Load(handlers+0x1000-4+at%8, piece)
		case 2:
			e.Mem.Ram().Write(secondTable+at%6*4, 4, word)
		case 3:
			e.Mem.Flush()
		case 4:
			e.Bus.In(0x3F8, 1)
			e.Bus.Out(0x20, 1, 0x20)
			e.Bus.Push(9)
		case 5:
			e.Cpu.Eip = at
			e.Cpu.Halted = false
		case 6:
			e.Cpu.Flags |= fi
		case 7:
			e.Cpu.Seg[api.Cs].D.Base = at % 3
		}
	}
}

// stepsOf does so many steps one by one.
func stepsOf(e *exec.Env, n int) {
	for range n {
		step.Step(e)
	}
}

// P20.3, P20.5: random programs, with blocks of every length that were made at any time, of this program or another one, run again and again: each step is step.Step's.
func TestAsStepByStep(t *testing.T) {
	r := rand.New(rand.NewSource(2020))
	var blocks []*trans.Block
	for round := range 200 {
		s := randomProgram(r)
		e, other := s.env(t), s.env(t)
		for turn := 0; turn < 40 && !e.Cpu.Dead; turn++ {
			if r.Intn(4) == 0 {
				shaken(r, e, other)
			}
			if r.Intn(2) == 0 {
				most := 1 + r.Intn(64)
				b, err := trans.Make(e, most)
				_, _, f := step.Fetch(other)
				if (err != api.OK) != (f.Vec >= 0) {
					t.Fatalf("Make(%d): %v, %+v", most, err, f)
				}
				nearlyAlike(t, "Make", e, other)
				if b != nil {
					blocks = append(blocks, b)
				}
			}
			if len(blocks) == 0 {
				continue
			}
			b := blocks[len(blocks)-1-r.Intn(min(len(blocks), 5))]
			ran(t, fmt.Sprintf("round %d, turn %d", round, turn), b, e, other, 1+r.Intn(64))
		}
		alike(t, "then", e, other)
	}
}

// drawn is a number near the ends, or anywhere.
func drawn(r *rand.Rand) int {
	odd := []int{0, 1, 2, 3, 4, 8, 13, 15, 16, 64, 65, 255, 256, -1, -2, 1 << 31, 1 << 32, -1 << 63, 1<<63 - 1}
	if r.Intn(3) == 0 {
		return int(r.Uint64())
	}
	return odd[r.Intn(len(odd))]
}

func drawnCpu(r *rand.Rand) api.Cpu {
	near := func() uint32 { return r.Uint32() >> r.Intn(32) }
	yes := func() bool { return r.Intn(2) == 0 }
	c := api.Cpu{Eip: near(), Flags: r.Uint32(), Cr0: r.Uint32(), Cr2: r.Uint32(), Cr3: near(), Shadow: yes(), Halted: yes(), Dead: r.Intn(8) == 0}
	c.Gdt = api.Table{Base: near(), Limit: uint16(r.Uint32())}
	c.Idt = api.Table{Base: near(), Limit: uint16(r.Uint32())}
	for n := range c.R {
		c.R[n] = near()
	}
	segment := func() api.SegReg {
		return api.SegReg{Sel: uint16(r.Uint32()), Null: r.Intn(8) == 0, D: api.Desc{Base: near(), Limit: r.Uint32(), Type: drawn(r), System: r.Intn(4) == 0, Dpl: drawn(r), Present: yes(), Big: yes()}}
	}
	for n := range c.Seg {
		c.Seg[n] = segment()
	}
	c.Tr = segment()
	return c
}
