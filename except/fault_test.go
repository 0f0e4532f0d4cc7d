package except_test

import (
	"fmt"
	"math"
	"testing"

	"drawloom/api"
	"drawloom/except"
)

// Where the gates of a ladder lead: the one of a vector to this place, and 16 times it.
const ladderPlace = 0x4000

// ladder is a rig of ring 3 with pages, in which each vector has a gate to the ring's own code; page 15 is not there. The task's stack of ring 2 lies behind Tr's Limit, that of ring 1 is not present.
var ladder = func() func() state {
	s := paged()
	for vec := range 256 {
		s.apply(fmt.Sprintf("gate=%x:38:%x:8E00", vec, ladderPlace+16*vec), 0)
	}
	s.apply("B03C:00000000 gdt.limit=FFFF in=3 tr.limit=13 words=1410:31 words=830:FFFF,CF3200", 0)
	return s.clone
}()

// failings spoil a vector's gate, so that its delivery ends with a fault.
type failing struct {
	gate string // selector, place and attributes
	f    func(vec int) api.Fault
}

func failings() map[int]failing {
	always := func(f api.Fault) func(int) api.Fault { return func(int) api.Fault { return f } }
	return map[int]failing{
		10: {"28:6030:8E00", always(api.Fault{Vec: 10, Code: 0x89})},
		11: {"38:6030:0E00", func(vec int) api.Fault { return api.Fault{Vec: 11, Code: 8*vec + 3} }},
		12: {"18:6030:8E00", always(api.Fault{Vec: 12, Code: 0x31})},
		13: {"38:6030:8500", func(vec int) api.Fault { return api.Fault{Vec: 13, Code: 8*vec + 3} }},
		14: {"E800:6030:8E00", always(api.Fault{Vec: 14, Code: 0, Cr2: 0xF000})},
	}
}

// spoiled is a ladder whose gates fail, those of some vectors.
func spoiled(with map[int]int) state {
	s := ladder()
	for vec, second := range with {
		s.apply(fmt.Sprintf("gate=%x:%s", vec, failings()[second].gate), 0)
	}
	return s
}

// delivered is what a rig is behind a delivery that succeeds.
func delivered(s state, f api.Fault) state {
	s = s.clone()
	place := ladderPlace + 16*f.Vec
	if f.Vec == 14 {
		s.cpu.Cr2 = f.Cr2
	}
	if f.Code < 0 {
		s.apply(fmt.Sprintf("to14=%x stack=8FF4:100,3B,@", place), s.cpu.Flags)
	} else {
		s.apply(fmt.Sprintf("to14=%x stack=8FF0:%x,100,3B,@", place, f.Code), s.cpu.Flags)
	}
	return s
}

func checkFault(t *testing.T, s state, f api.Fault, want state) {
	t.Helper()
	for range 2 {
		e := s.env(t)
		except.Fault(e, f)
		stateOf(e, none).holds(t, fmt.Sprintf("Fault(%+v)", f), want)
	}
}

// P18.2: a fault that is delivered at once, of each vector, with a code and without; Cr2 of 14 alone.
func TestFault(t *testing.T) {
	s := spoiled(nil)
	for vec := range 256 {
		for _, code := range []int{-1, 0, 5, -7, 0xFFFF} {
			f := api.Fault{Vec: vec, Code: code, Cr2: 0x1234}
			if vec > 20 && code > 0 {
				continue
			}
			checkFault(t, s, f, delivered(s, f))
		}
	}
}

// P18.2: of no fault nothing is done.
func TestNoFault(t *testing.T) {
	s := spoiled(nil)
	for _, vec := range []int{-1, -2, -14, -256, math.MinInt, -1 << 32, -1<<32 + 14} {
		for _, code := range []int{-1, 0, 5} {
			checkFault(t, s, api.Fault{Vec: vec, Code: code, Cr2: 0x1234}, s)
		}
	}
}

// P18.2: a fault whose delivery ends with another one, of each vector and each kind: what is delivered then.
func TestJoined(t *testing.T) {
	paging, contributing := map[int]bool{14: true}, map[int]bool{0: true, 10: true, 11: true, 12: true, 13: true}
	for first := range 256 {
		for second := 10; second <= 14; second++ {
			f := api.Fault{Vec: first, Code: 2, Cr2: 0x1234}
			s := spoiled(map[int]int{first: second})
			want := s.clone()
			if first == 14 {
				want.cpu.Cr2 = 0x1234
			}
			other := failings()[second].f(first)
			switch {
			case first == 8:
				want.cpu.Dead = true
			case contributing[first] && contributing[second], paging[first]:
				want = delivered(want, api.Fault{Vec: 8})
			default:
				want = delivered(want, other)
			}
			checkFault(t, s, f, want)
		}
	}
}

// P18.2: a vector that is none is a #GP(0) as it is delivered, and that is joined with a fault of no class.
func TestFaultOfNoVector(t *testing.T) {
	for _, vec := range []int{256, 257, 256 + 8, 256 + 13, 256 + 14, 1 << 16, 1<<32 + 8, math.MaxInt} {
		f := api.Fault{Vec: vec, Code: 5, Cr2: 0x1234}
		s := spoiled(nil)
		checkFault(t, s, f, delivered(s, gp(0)))
		s = spoiled(map[int]int{13: 13})
		checkFault(t, s, f, delivered(s, api.Fault{Vec: 8}))
	}
}

// P18.2: the second fault's delivery fails, and so on: to 8, to Dead.
func TestChains(t *testing.T) {
	gpOf := func(vec int) api.Fault { return gp(8*vec + 3) }
	pf := api.Fault{Vec: 14, Cr2: 0xF000}
	df := api.Fault{Vec: 8}
	for _, c := range []struct {
		f    api.Fault
		with map[int]int
		then api.Fault // none: Dead
		cr2  uint32
	}{
		{api.Fault{Vec: 6, Code: -1}, map[int]int{6: 13}, gpOf(6), 0},
		{api.Fault{Vec: 6, Code: -1}, map[int]int{6: 14}, pf, 0xF000},
		{api.Fault{Vec: 6, Code: -1}, map[int]int{6: 13, 13: 13}, df, 0},
		{api.Fault{Vec: 6, Code: -1}, map[int]int{6: 13, 13: 11}, df, 0},
		{api.Fault{Vec: 6, Code: -1}, map[int]int{6: 13, 13: 14}, pf, 0xF000},
		{api.Fault{Vec: 6, Code: -1}, map[int]int{6: 13, 13: 14, 14: 13}, df, 0xF000},
		{api.Fault{Vec: 6, Code: -1}, map[int]int{6: 13, 13: 14, 14: 14}, df, 0xF000},
		{api.Fault{Vec: 6, Code: -1}, map[int]int{6: 13, 13: 14, 14: 13, 8: 13}, none, 0xF000},
		{api.Fault{Vec: 6, Code: -1}, map[int]int{6: 13, 13: 14, 14: 13, 8: 14}, none, 0xF000},
		{api.Fault{Vec: 6, Code: -1}, map[int]int{6: 13, 13: 13, 8: 14}, none, 0},
		{api.Fault{Vec: 6, Code: -1}, map[int]int{6: 14, 14: 12}, df, 0xF000},
		{api.Fault{Vec: 6, Code: -1}, map[int]int{6: 14, 14: 14, 8: 12}, none, 0xF000},
		{api.Fault{Vec: 13, Code: 5}, map[int]int{13: 10, 8: 10}, none, 0},
		{api.Fault{Vec: 13, Code: 5}, map[int]int{13: 10, 10: 10}, df, 0},
		{api.Fault{Vec: 0, Code: -1}, map[int]int{0: 12, 8: 11}, none, 0},
		{api.Fault{Vec: 0, Code: -1}, map[int]int{0: 14, 14: 10}, df, 0xF000},
		{api.Fault{Vec: 14, Code: 2, Cr2: 0x1234}, map[int]int{14: 14}, df, 0x1234},
		{api.Fault{Vec: 14, Code: 2, Cr2: 0x1234}, map[int]int{14: 13}, df, 0x1234},
		{api.Fault{Vec: 14, Code: 2, Cr2: 0x1234}, map[int]int{14: 13, 8: 14}, none, 0x1234},
		{api.Fault{Vec: 8, Code: 0}, map[int]int{8: 14}, none, 0},
		{api.Fault{Vec: 8, Code: 0}, map[int]int{8: 11}, none, 0},
		{api.Fault{Vec: 8, Code: 0, Cr2: 5}, nil, df, 0},
	} {
		s := spoiled(c.with)
		want := s.clone()
		if c.cr2 != 0 {
			want.cpu.Cr2 = c.cr2
		}
		if c.then == none {
			want.cpu.Dead = true
		} else {
			want = delivered(want, c.then)
		}
		checkFault(t, s, c.f, want)
	}
}

// P18.2: by rows: a processor of ring 0 without gates, what was pushed ahead of a fault, and one that is dead already.
func TestFaultByHand(t *testing.T) {
	runAll(t, []row{
		{"fault #UD", "idt.limit=0", "dead"},
		{"fault #PF(2,1234)", "idt.limit=0", "dead cr2=1234"},
		{"fault #GP(18)", "", "dead"},
		{"fault #3", "", "to14=6030 stack=8FF4:100,8,@"},
		{"fault #3", "gate=3:8:6030:8F00", "to15=6030 stack=8FF4:100,8,@"},
		{"fault #3(7)", "gate=3:8:6030:EF00", "to15=6030 stack=8FF0:7,100,8,@"},
		{"fault #3", "dead", "to14=6030 stack=8FF4:100,8,@"},
		{"fault #UD", "dead", "dead"},
		{"fault #UD", "dead gate=6:8:6030:8E00", "to14=6030 stack=8FF4:100,8,@"},
		{"fault #PF(2,1234)", "dead", "dead cr2=1234"},
		{"fault #UD", "idt.limit=37 gate=6:8:6030:8E00", "to14=6030 stack=8FF4:100,8,@"},
		{"fault #UD", "idt.limit=36 gate=6:8:6030:8E00", "dead"},
		{"fault #3", "in=3", "to14=6030 cs=8 ss=10 stack=6FEC:100,3B,@,9000,43"},
		{"fault #3(5)", "ss=78 ss.limit=8FF3 gate=C:8:5000:8E00 gate=8:8:7000:8E00", "dead words=8FF4:100,8,@"},
		{"fault #3(5)", "in=3 words=1404:6FF4,78 gate=C:8:5000:8E00 gate=8:8:7000:8E00", "dead words=6FE0:100,3B,@,9000,43"},
		{"fault #3(5)", "in=3 words=1404:6FF4,78 gate=C:8:5000:8E00 gate=8:18:7000:8E00", "to14=7000 cs=19 ss=21 words=6FE0:100,3B,@,9000,43 stack=73E8:0,100,3B,@,9000,43"},
		{"fault #3(5)", "in=3 words=1404:6FF4,78 gate=C:18:5000:8E00", "to14=5000 cs=19 ss=21 words=6FE0:100,3B,@,9000,43 stack=73E8:0,100,3B,@,9000,43"},
	})
	runPaged(t, []row{
		{"fault #3", "esp=8004 B01C:00000000 gate=E:38:5000:8E00 gate=8:18:7000:8E00", "dead words=8000:@ cr2=7FFC"},
		{"fault #3", "in=3 words=1404:7008 B018:00000000 gate=E:18:5000:8E00", "to14=5000 cs=19 ss=21 cr2=6FFC words=7000:9000,43 stack=73E8:2,100,3B,@,9000,43"},
		{"fault #PF(7,1234)", "in=3 words=1404:7008 B018:00000000 gate=E:8:5000:8E00 gate=8:18:7000:8E00", "to14=7000 cs=19 ss=21 cr2=1234 words=7000:9000,43 stack=73E8:0,100,3B,@,9000,43"},
		{"fault #GP(8)", "in=3 words=1404:7008 B018:00000000 gate=D:8:5000:8E00 gate=E:18:7000:8E00", "to14=7000 cs=19 ss=21 cr2=6FFC words=7000:9000,43 stack=73E8:2,100,3B,@,9000,43"},
	})
}
