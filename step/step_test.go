package step_test

import (
	"fmt"
	"math"
	"testing"

	"drawloom/api"
	"drawloom/exec"
	"drawloom/step"
)

// P19.3: of a dead processor nothing is done, whatever else is so.
func TestStepOfTheDead(t *testing.T) {
	for _, more := range []string{"", "halted", "asks set=IF noshadow", "asks set=IF noshadow halted", "eip=FFFFFFFF", "cs.limit=0", "idt.limit=0", "in=3"} {
		runSteps(t, []row{{"100:90 dying " + more, "dead", ""}, {"100:0F0B dying " + more, "dead", ""}})
	}
}

// P19.3: whether an interrupt comes, of each mixture of what it hangs on.
func TestWhatStepIs(t *testing.T) {
	either := func(yes bool, a, b string) string {
		if yes {
			return a
		}
		return b
	}
	for n := range 32 {
		asks, enabled, shadow, halted, nothing := n&1 != 0, n&2 != 0, n&4 != 0, n&8 != 0, n&16 != 0
		before := either(asks, "asks", "") + either(enabled, " set=IF", " clr=IF") + either(shadow, " shadow", " noshadow") + either(halted, " halted", "")
		x := row{"100:90 " + before, "inst", "by=101"}
		if nothing {
			x = row{"100:67 " + before, "fault", "#UD"}
		}
		switch {
		case asks && enabled && !shadow:
			x.kind, x.after = "int", "soft=24:100 served"
		case halted:
			x.kind, x.after = "wait", ""
		}
		runSteps(t, []row{x})
	}
}

// P19.3: an interrupt that comes, of each ring and kind of gate: what is pushed is the boundary's place.
func TestInterrupt(t *testing.T) {
	runSteps(t, []row{
		{"asks set=IF noshadow in=3", "int", "soft=24:100 served"},
		{"asks set=IF noshadow in=3 halted", "int", "soft=24:100 served"},
		{"asks noshadow gate=24:8:6030:8F00 flags=302", "int", "soft=24:100 served eip=6030 flags=202"},
		{"asks set=IF noshadow eip=FFFFFFFF cs.limit=0", "int", "soft=24:FFFFFFFF served"},
		{"asks set=IF noshadow idt.limit=127", "int", "soft=24:100 served"},
		// It is not asked for by a program: the gate's ring does not count.
		{"asks set=IF noshadow in=3 gate=24:8:6030:8E00", "int", "soft=24:100 served eip=6030"},
	})
}

// P19.3: an interrupt whose delivery ends with a fault: that is delivered, and it was told all the same.
func TestInterruptWithFault(t *testing.T) {
	for _, more := range []string{"", " halted", " 100:0F0B"} {
		runSteps(t, []row{
			{"asks set=IF noshadow idt.limit=126" + more, "int", "#GP(123) served"},
			{"asks set=IF noshadow gate=24:8:6030:0E00" + more, "int", "#NP(123) served"},
			{"asks set=IF noshadow gate=24:8:6030:8500" + more, "int", "#GP(123) served"},
			{"asks set=IF noshadow gate=24:0:6030:8E00" + more, "int", "#GP(1) served"},
			{"asks set=IF noshadow gate=24:38:6030:8E00" + more, "int", "#GP(39) served"},
			{"asks set=IF noshadow gate=24:8:6030:0E00 in=3" + more, "int", "#NP(123) served"},
			{"asks set=IF noshadow gate=24:8:6030:0E00 gate=B:8:6030:0E00" + more, "int", "#DF(0) served"},
			{"asks set=IF noshadow idt.base=C000 cr0=80000001 words=B030:0 idt.limit=FF" + more, "int", "served cr2=C068 dying"},
			{"asks set=IF noshadow idt.limit=0" + more, "int", "served dying"},
			{"asks set=IF noshadow ss.limit=8FFE" + more, "int", "served dying"},
			{"asks set=IF noshadow esp=8004 cr0=80000001 words=B01C:0" + more, "int", "served words=8000:@ cr2=7FFC dying"},
		})
	}
}

// P19.3: a processor that waits does so till an interrupt comes; what stands at its place is not asked for.
func TestWait(t *testing.T) {
	runSteps(t, []row{
		{"halted 100:90", "wait", ""},
		{"halted 100:0F0B", "wait", ""},
		{"halted cs.limit=0", "wait", ""},
		{"halted eip=5100 cr0=80000001 words=B014:0", "wait", ""},
		{"halted asks clr=IF", "wait", ""},
		{"halted asks shadow", "wait", ""},
		{"halted set=IF served", "wait", ""},
		{"halted in=3", "wait", ""},
	})
}

// P19.3: faults of fetching.
func TestFaultsOfFetching(t *testing.T) {
	runSteps(t, []row{
		{"100:0F0B", "fault", "#UD"},
		{"100:67", "fault", "#UD"},
		{"100:666666666666666666666666666666", "fault", "#GP(0)"},
		{"100:90 cs.limit=FF", "fault", "#GP(0)"},
		{"100:90 cs.limit=100", "inst", "by=101"},
		{"100:CD80 cs.limit=100", "fault", "#GP(0)"},
		{"5100:90 eip=5100 cr0=80000001 words=B014:0", "fault", "#PF(0,5100)"},
		{"5100:90 eip=5100 cr0=80000001 words=B014:0 in=3", "fault", "#PF(4,5100)"},
		{"5100:90 eip=5100 cr0=80000001 words=B014:5063 in=3", "fault", "#PF(5,5100)"},
		{"4FFF:CD80 eip=4FFF cr0=80000001 words=B010:4001 words=B014:0", "fault", "#PF(0,5000) words=B010:4021"},
		{"4FFF:CD80 eip=4FFF cr0=80000001 words=B014:0", "fault", "#PF(0,5000)"},
		{"3FFF:CD80 eip=3FFF cr0=80000001 words=B00C:3001 words=B010:0 gate=E:8:6030:8E00", "fault", "#PF(0,4000) words=B00C:3021 eip=6030"},
		{"100:0F0B in=3", "fault", "#UD"},
		{"100:0F0B asks clr=IF", "fault", "#UD"},
		{"100:0F0B gate=6:8:6030:0E00", "fault", "#NP(33)"},
		{"100:0F0B gate=6:8:6030:0E00 gate=B:8:6030:0E00", "fault", "#DF(0)"},
		{"100:0F0B idt.limit=0", "fault", "dying"},
		{"100:90 cs.limit=FF idt.limit=0", "fault", "dying"},
		{"5100:90 eip=5100 cr0=80000001 words=B014:0 idt.limit=6F", "fault", "cr2=5100 #DF(0)"},
	})
}

// walk holds steps one by one against their kinds, and where the processor is behind each.
func walk(t *testing.T, what string, e *exec.Env, steps ...[2]int) {
	t.Helper()
	for n, want := range steps {
		now := e.Bus.Now()
		kind := step.Step(e)
		if kind != want[0] || int(e.Cpu.Eip) != want[1] {
			t.Errorf("%s: step %d was %d, Eip %#x; want %d, %#x", what, n, kind, e.Cpu.Eip, want[0], want[1])
			return
		}
		if kind != dead {
			now++
		}
		if e.Bus.Now() != now {
			t.Errorf("%s: behind step %d the time is %d; want %d", what, n, e.Bus.Now(), now)
		}
	}
}

// P19.3: what holds interrupts off for one instruction: STI, and SS that is loaded.
func TestShadows(t *testing.T) {
	const ready, on, off = "asks ", "asks set=IF shadow ", "asks clr=IF "
	handler := func(vec int) int { return handlers + 16*vec }
	for _, c := range []struct {
		before, code string
		steps        [][2]int
	}{
		{off, "FB9090", [][2]int{{inst, 0x101}, {inst, 0x102}, {interrupt, handler(0x24)}}},
		{on, "9090", [][2]int{{inst, 0x101}, {interrupt, handler(0x24)}}},
		{off, "FBFB90", [][2]int{{inst, 0x101}, {inst, 0x102}, {interrupt, handler(0x24)}}},
		{on, "FB90", [][2]int{{inst, 0x101}, {interrupt, handler(0x24)}}},
		{off, "FBFA90", [][2]int{{inst, 0x101}, {inst, 0x102}, {inst, 0x103}}},
		{on + "eax=10", "8ED09090", [][2]int{{inst, 0x102}, {inst, 0x103}, {interrupt, handler(0x24)}}},
		{on + "eax=10", "8ED08ED090", [][2]int{{inst, 0x102}, {inst, 0x104}, {inst, 0x105}, {interrupt, handler(0x24)}}},
		{on + "eax=10", "8ED89090", [][2]int{{inst, 0x102}, {interrupt, handler(0x24)}}},
		{on + "words=9000:10", "179090", [][2]int{{inst, 0x101}, {inst, 0x102}, {interrupt, handler(0x24)}}},
		{on + "words=9000:10", "1F9090", [][2]int{{inst, 0x101}, {interrupt, handler(0x24)}}},
		{off + "eax=10", "FB8ED09090", [][2]int{{inst, 0x101}, {inst, 0x103}, {inst, 0x104}, {interrupt, handler(0x24)}}},
		{off, "FBF490", [][2]int{{inst, 0x101}, {inst, 0x102}, {interrupt, handler(0x24)}}},
		{off, "FB0F0B", [][2]int{{inst, 0x101}, {fault, handler(6)}}},
		{off + "gate=6:8:6060:8F00", "FB0F0B", [][2]int{{inst, 0x101}, {fault, 0x6060}, {interrupt, handler(0x24)}}},
		{off + "gate=80:8:6060:8F00", "FBCD80", [][2]int{{inst, 0x101}, {inst, 0x6060}, {interrupt, handler(0x24)}}},
		{on + "gate=3:8:6060:8F00", "CC", [][2]int{{inst, 0x6060}, {interrupt, handler(0x24)}}},
		{on + "words=9000:200,8,202", "CF", [][2]int{{inst, 0x200}, {interrupt, handler(0x24)}}},
		{off + "words=9000:200,8,202", "CF", [][2]int{{inst, 0x200}, {interrupt, handler(0x24)}}},
		{off + "words=9000:202", "9D90", [][2]int{{inst, 0x101}, {interrupt, handler(0x24)}}},
		{off + "ecx=3 clr=DF", "FBF3AA", [][2]int{{inst, 0x101}, {inst, 0x101}, {interrupt, handler(0x24)}}},
		{on + "ecx=3 clr=DF", "F3AA", [][2]int{{inst, 0x100}, {interrupt, handler(0x24)}}},
		{on + "ecx=1 clr=DF", "F3AA", [][2]int{{inst, 0x102}, {interrupt, handler(0x24)}}},
		{ready + "set=IF", "9090", [][2]int{{interrupt, handler(0x24)}}},
	} {
		walk(t, c.before+c.code, program(t, c.before, c.code), c.steps...)
	}
}

// P19.3: the vector is the one that Ack tells, of each device and each base; its line is served then.
func TestVectors(t *testing.T) {
	type device struct {
		name  string
		line  int
		masks [2]uint32
		ask   func(e *exec.Env)
	}
	devices := []device{
		{"the timer", 0, [2]uint32{0xFE, 0xFF}, func(e *exec.Env) { e.Bus.Tick(65536) }},
		{"the serial port", 4, [2]uint32{0xEF, 0xFF}, func(e *exec.Env) { e.Bus.Push(7) }},
		{"the disk", 14, [2]uint32{0xFB, 0xBF}, func(e *exec.Env) {
			e.Bus.Out(0x1F6, 1, 0x40)
			e.Bus.Out(0x1F2, 1, 1)
			e.Bus.Out(0x1F7, 1, 0x20)
		}},
	}
	for _, base := range [][2]int{{0x20, 0x28}, {0, 0}, {0xF8, 0x70}, {8, 0xF8}} {
		for _, d := range devices {
			e := program(t, "set=IF clr=TF", "90")
			setUp(e.Bus, uint32(base[0]), uint32(base[1]))
			mask(e.Bus, d.masks[0], d.masks[1])
			d.ask(e)
			vec, served := base[0]+d.line, [2]uint32{1 << d.line, 0}
			if d.line > 7 {
				vec, served = base[1]+d.line-8, [2]uint32{1 << 2, 1 << (d.line - 8)}
			}
			what := fmt.Sprintf("%s, of the bases %x", d.name, base)
			walk(t, what, e, [2]int{interrupt, handlers + 16*vec})
			if s := [2]uint32{servedOf(e.Bus, 0x20), servedOf(e.Bus, 0xA0)}; s != served {
				t.Errorf("%s: %x are served; want %x", what, s, served)
			}
			if e.Bus.Pending() {
				t.Errorf("%s waits still", what)
			}
		}
	}
}

// P19.3: where no interrupt is delivered none is acknowledged.
func TestNotAcknowledged(t *testing.T) {
	for _, before := range []string{"asks clr=IF", "asks set=IF shadow", "asks clr=IF halted", "asks set=IF dying"} {
		e := program(t, before, "90")
		step.Step(e)
		if !e.Bus.Pending() || servedOf(e.Bus, 0x20) != 0 {
			t.Errorf("%s: it was", before)
		}
	}
}

// P19.3, P19.6: a processor that waits is woken by the timer, at its tick.
func TestWokenByTimer(t *testing.T) {
	e := program(t, "set=IF", "F4")
	mask(e.Bus, 0xFE, 0xFF)
	e.Bus.Out(0x43, 1, 0x14)
	e.Bus.Out(0x40, 1, 10) // mode 2: the line is up again every 10 ticks
	walk(t, "halt", e, [2]int{inst, 0x101})
	waits := 0
	for step.Step(e) == wait {
		waits++
	}
	if waits != 9 || e.Cpu.Eip != handlers+16*0x20 || e.Cpu.Halted || e.Bus.Now() != early+1+9+1 {
		t.Errorf("%d waits; %+v, time %d", waits, e.Cpu, e.Bus.Now())
	}
	if v, _ := e.Mem.Ram().Read(e.Cpu.R[api.Esp], 4); v != 0x101 {
		t.Errorf("it goes on at %#x", v)
	}
}

// P19.4: how many are done, and what is then.
func TestSteps(t *testing.T) {
	for _, n := range []int{math.MinInt, -1 << 32, -100, -1, 0} {
		e := program(t, "asks set=IF", "90")
		was := stateOf(e, 0)
		if done := step.Steps(e, n); done != 0 {
			t.Errorf("Steps(%d): %d", n, done)
		}
		stateOf(e, 0).holds(t, "then", was)
	}
	for _, n := range []int{1, 2, 3, 17, 1000} {
		e, other := program(t, "eax=0", "40EBFD"), program(t, "eax=0", "40EBFD")
		if done := step.Steps(e, n); done != n || e.Cpu.R[api.Eax] != uint32(n+1)/2 || e.Bus.Now() != uint64(early+n) {
			t.Errorf("Steps(%d): %d, EAX %d, time %d", n, done, e.Cpu.R[api.Eax], e.Bus.Now())
		}
		for range n {
			step.Step(other)
		}
		stateOf(e, 0).holds(t, "at once", stateOf(other, 0))
	}
}

// P19.4: one that dies in the midst: the step in which it dies is the last one that is counted; one that is dead does none.
func TestStepsOfOneThatDies(t *testing.T) {
	for lives := range 5 {
		code := "9090909090"[:2*lives] + "0F0B"
		for _, n := range []int{0, 1, lives, lives + 1, lives + 2, 1000, math.MaxInt} {
			e := program(t, "idt.limit=0", code)
			want := min(n, lives+1)
			if done := step.Steps(e, n); done != want || e.Bus.Now() != uint64(early+want) || e.Cpu.Dead != (n > lives) {
				t.Errorf("%d live, Steps(%d): %d, time %d, %+v", lives, n, done, e.Bus.Now(), e.Cpu)
			}
			if e.Cpu.Dead {
				if done := step.Steps(e, n); done != 0 || e.Bus.Now() != uint64(early+want) {
					t.Errorf("dead, Steps(%d): %d, time %d", n, done, e.Bus.Now())
				}
			}
		}
	}
	// By an interrupt, and by an instruction that is done.
	for before, code := range map[string]string{"asks set=IF idt.limit=0": "90", "clr=IF idt.limit=0": "CD80"} {
		e := program(t, before, code)
		if done := step.Steps(e, 7); done != 1 || !e.Cpu.Dead || e.Bus.Now() != early+1 {
			t.Errorf("%s: %d, %+v", before, done, e.Cpu)
		}
	}
}

// P19.4: one that waits does so all the time.
func TestStepsOfOneThatWaits(t *testing.T) {
	e := program(t, "clr=IF asks", "F4")
	if done := step.Steps(e, 5000); done != 5000 || !e.Cpu.Halted || e.Cpu.Eip != 0x101 || e.Bus.Now() != early+5000 {
		t.Errorf("%d, %+v, time %d", done, e.Cpu, e.Bus.Now())
	}
	e.Cpu.Flags |= fi
	if done := step.Steps(e, 1); done != 1 || e.Cpu.Halted || e.Cpu.Eip != handlers+16*0x24 {
		t.Errorf("%d, %+v", done, e.Cpu)
	}
}
