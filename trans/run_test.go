package trans_test

import (
	"bytes"
	"fmt"
	"math"
	"math/rand"
	"slices"
	"testing"

	"drawloom/api"
	"drawloom/bus"
	"drawloom/exec"
	"drawloom/trans"
	"drawloom/vmem"
)

// The chapter's examples.
func TestExamples(t *testing.T) {
	e, other := program(t, "eax=0", "4040EBFC"), program(t, "eax=0", "4040EBFC")
	b := made(t, e, 64)
	for range 30 {
		if n := ran(t, "40 40 EB FC", b, e, other, 64); n > 3 {
			t.Errorf("%d steps", n)
		}
	}
	refused(t, "40 40 EB FC", e, 65, api.ErrTransMost)
	refused(t, "0F 0B", program(t, "", "0F0B"), 1, api.ErrTransNone)
}

// P20.4: no Block, and one that Make did not make; no Env, one without Mem, one without Bus.
func TestNoBlock(t *testing.T) {
	s := withCode("", "4041")
	e := s.env(t)
	for name, b := range map[string]*trans.Block{"none": nil, "empty": {}} {
		if len(b.Insts()) != 0 || len(b.Granules()) != 0 {
			t.Errorf("%s: %+v, %x", name, b.Insts(), b.Granules())
		}
		for _, other := range []*exec.Env{nil, {}, e} {
			for _, limit := range []int{math.MinInt, -1, 0, 1, 64, math.MaxInt} {
				if n := b.Run(other, limit); n != 0 {
					t.Errorf("%s: Run(%d): %d", name, limit, n)
				}
			}
		}
	}
	b := made(t, e, 2)
	for name, other := range map[string]*exec.Env{
		"none": nil, "empty": {}, "neither": {Cpu: e.Cpu}, "without Mem": {Cpu: e.Cpu, Bus: e.Bus}, "without Bus": {Cpu: e.Cpu, Mem: e.Mem},
	} {
		for _, limit := range []int{math.MinInt, -1, 0, 1, 64, math.MaxInt} {
			if n := b.Run(other, limit); n != 0 {
				t.Errorf("%s: Run(%d): %d", name, limit, n)
			}
		}
		if other != nil && other.Cpu != e.Cpu && other.Cpu != (api.Cpu{}) {
			t.Errorf("%s: %s", name, unlike(other.Cpu, e.Cpu))
		}
	}
	stateOf(e).holds(t, "then", s)
}

// P20.3: limits below 1, 1, less and more than the block has.
func TestLimit(t *testing.T) {
	s := withCode("", mixed+"EB00")
	count := len(made(t, s.env(t), 64).Insts())
	for _, limit := range []int{math.MinInt, -1 << 32, -64, -1, 0, 1, 2, 3, count - 1, count, count + 1, 64, 65, 1 << 32, math.MaxInt} {
		for _, most := range []int{1, 2, 5, 64} {
			for _, before := range []string{"", "halted", "dying", "asks set=IF", "eip=107", "100:0F0B", "cs.limit=FF"} {
				s := withCode("", mixed+"EB00")
				b := made(t, s.env(t), most)
				s.apply(before)
				e, other := s.env(t), s.env(t)
				n := ran(t, before, b, e, other, limit)
				alike(t, before, e, other)
				if limit < 1 || before == "dying" {
					stateOf(e).holds(t, before, s)
				}
				if before == "" && n != max(0, min(limit, len(b.Insts()))) {
					t.Errorf("Run(%d) of %d: %d", limit, len(b.Insts()), n)
				}
			}
		}
	}
}

// P20.3: whatever the processor is like when a block is run that was made of something else: the step that comes is the one that stands there.
func TestRunOfAnotherState(t *testing.T) {
	changes := []string{
		"", "dying", "halted", "halted asks set=IF", "halted asks", "halted asks set=IF shadow", "shadow", "asks", "asks set=IF", "asks set=IF shadow",
		"eip=101", "eip=103", "eip=104", "eip=110", "eip=0", "eip=FFFFFFFF", "eip=A000", "eip=5FE",
		"100:4B", "100:0F0B", "100:66", "100:F4", "101:29", "102:D9", "107:B9", "10A:78", "10B:EBFE", "100:" + "66B83412" + mixed, "11B:F4",
		"100:F3", "100:83C07F", "100:B8",
		"cs.limit=FF", "cs.limit=100", "cs.limit=101", "cs.limit=10D", "cs.limit=0", "cs.base=1", "cs.base=FFFFFFFF", "cs.base=1000", "cs.base=1000 1100:" + mixed,
		"cs=28", "cs=28 eip=0", "cs=28 eip=0 cs.limit=2", "in=3", "cs=2", "cs=10", "idt.limit=0 100:0F0B",
		"paged", "paged page=0:5:67", "paged page=0:5:67 5100:4B4B4B", "paged page=0:5:67 5100:" + mixed, "paged page=0:0:0", "paged page=0:0:63 in=3", "paged page=0:0:7", "paged page=0:0:7 words=A000:B007",
		"paged page=0:0:7 100:4B", "paged words=A000:0", "paged cr3=C000 words=C000:B007", "paged cr3=C000 words=C000:0", "paged page=0:F0:67",
		"ss.limit=0", "idt.limit=0", "esp=2", "set=TF+NT", "clr=ONE",
	}
	for _, change1 := range changes {
		for _, change2 := range []string{"", "eip=FF8", "eip=FFB paged page=1:7:7", "eip=FFB paged page=1:0:6", "asks set=IF", "shadow"} {
			for _, most := range []int{1, 3, 64} {
				s := withCode("words=4240:CF words=40D0:CF words=40E0:CF words=4060:CF", mixed+"EB00")
				b := made(t, s.env(t), most)
				s.apply(change2)
				if s.cpu.Eip != begin {
					s.layCode(s.cpu.Eip, mixed)
				}
				s.apply(change1)
				e, other := s.env(t), s.env(t)
				what := fmt.Sprintf("%q, %q, Make(%d)", change2, change1, most)
				for turn := range 6 {
					ran(t, what, b, e, other, 1+turn%2*63)
				}
				alike(t, what, e, other)
			}
		}
	}
}

// P20.3: the same in an environment that lives on: what was changed ahead of a run, and changed back.
func TestRunOfAStateThatChanges(t *testing.T) {
	for _, between := range []string{
		"100:4B", "101:29", "107:B9", "10A:78", "10B:EBFE", "11B:F4", "100:0F0B",
		"page=0:5:67", "page=0:5:67 5100:4B4B4B", "page=0:0:0", "page=0:0:7", "page=0:0:7 words=A000:B007", "words=A000:0",
		"cr0=1", "cr0=1 100:48", "cr3=C000 words=C000:B007", "cs.base=1000 1100:4041", "cs.limit=100", "in=3", "in=3 page=0:0:63",
		"asks", "asks set=IF", "asks set=IF shadow", "halted", "halted asks set=IF", "shadow", "eip=5", "dying",
	} {
		s := withCode("paged words=4240:CF words=40E0:CF words=4060:CF", mixed+"EBE3")
		e, other := s.env(t), s.env(t)
		b := made(t, e, 64)
		for round := range 6 {
			what := fmt.Sprintf("%s, round %d", between, round)
			ran(t, what, b, e, other, 3)
			for _, x := range []*exec.Env{e, other} {
				change(x, between)
			}
			ran(t, what, b, e, other, 64)
			ran(t, what, b, e, other, 64)
			alike(t, what, e, other)
			for _, x := range []*exec.Env{e, other} {
				was := x.Bus.Now()
				x.Cpu = s.cpu
				x.Mem.Ram().Load(0, s.mem)
				if x.Bus.Now() != was {
					t.Fatal("it took time")
				}
			}
		}
	}
}

// scenarios are programs, with what comes of them: of each all blocks that there are on its way are run, as often as it comes there.
var scenarios = []struct{ name, before, code string }{
	{"a sum, and back", "eax=0", "4040EBFC"},
	{"out of it and back into its midst", "eax=0", "40EB02" + "40F4" + "40EBFA"},
	{"a jump to the next one", "", "40EB0041EBFA"},
	{"a jump to itself", "", "40EBFE"},
	{"a jump into itself", "", "40EBFF40"},
	{"jumps that are taken or not", "ecx=5", "4975FD49E302EBFA40F4"},
	{"loops", "ecx=4", "40E2FD41E2FEF4"},
	{"a call and back", "", "E80200000040F441C3"},
	{"a call by a register", "eax=107", "FFD040F490909041C3"},
	{"a far jump", "", "40EA0701000008004142EA080000002800"},
	{"a far jump that may not be", "", "40EA070100003F0041"},
	{"an interrupt by the program", "words=4800:CF41 words=4030:CF", "40CD8041CC42CEF4"},
	{"to another ring and back", "words=9000:110,1B,202,8000,23 gate=80:8:4800:EE00 words=4800:CF41 110:40CD804243EBF9", "40CF"},
	{"a fault in the midst", "ebx=0", "4041F7F34243"},
	{"a fault whose gate leads to the next one", "ebx=0 gate=0:8:104:8E00", "4041F7F34243F4"},
	{"a fault whose gate leads back", "ebx=0 gate=0:8:100:8E00", "4041F7F3"},
	{"bytes that are none in the midst", "", "40410F0B4243"},
	{"a fault of memory", "ds.limit=1FF", "40A1FC01000041A1FD01000041"},
	{"a page that is not there in the midst", "paged page=1:1:6", "40A10010000041"},
	{"a shut-down in the midst", "idt.limit=0", "40410F0B42"},
	{"a shut-down by an interrupt", "idt.limit=0 asks", "40FB414243"},
	{"nothing behind the limit", "cs.limit=103", "40414243444546"},
	{"halt", "", "40F44142"},
	{"halt, and an interrupt that waits", "asks words=4240:CF40", "40FBF44142F4"},
	{"halt, and none that may come", "asks", "40FAF44142"},
	{"shadow", "asks words=4240:CF41", "40FB40404040"},
	{"shadow of a stack", "asks set=IF shadow eax=10 words=4240:CF41", "8ED089C489E440"},
	{"shadow that an instruction takes away", "asks set=IF shadow words=4240:CF41", "9090F4"},
	{"flags that let it in", "asks words=9000:202", "409D4142"},
	{"a device that asks in the midst", "edx=3F9 eax=3 set=IF words=4240:CF41", "40EEB00341EE42"},
	{"a device that is let in the midst", "asks edx=21 eax=FF set=IF shadow words=4240:CF41", "EE9090B0EFEE9090"},
	{"the timer in the midst", "edx=43 eax=14 set=IF 4200:50B020E62058CF", "EE66BA4000B00DEE66BA2100B0FEEE40414240404040404040404040404040EBEE"},
	{"a repeated one", "ecx=3 edi=5000", "40F3AA4142"},
	{"a repeated one of no rounds", "ecx=0 edi=5000", "40F3AA4142"},
	{"a repeated one of one round", "ecx=1 edi=5000", "40F3AA4142"},
	{"a repeated one with the timer", "ecx=30 edi=5000 edx=43 eax=14 set=IF 4200:50B020E62058CF", "EE66BA4000B00BEE66BA2100B0FEEEF3AA4142"},
	{"a repeated one with a fault in its midst", "ecx=5 edi=1FFE es.limit=1FFF", "40F3AA41"},
	{"a repeated one that writes over itself", "ecx=8 edi=101 eax=40", "40F3AA41424344454647F4"},
	{"a repeated one that writes over what follows", "ecx=3 edi=103 eax=40", "40F3AA4B4B4BF4"},
	{"it changes what follows", "", "C605070100004090F4"},
	{"it changes what follows later", "", "C6050901000040" + "9090904BF4"},
	{"it changes itself", "", "C605000100004090EBF7"},
	{"it changes what is behind it", "", "4090C60500010000" + "48EBF5"},
	{"it changes the length of what follows", "", "C605070100000540414243440F0B"},
	{"it changes what follows by its stack", "esp=10A eax=48484848", "405090909090909090F4"},
	{"it changes what follows to none", "", "C7050A0100000F0B0F0B40F4"},
	{"it changes what follows to what is there", "", "C605070100004040F4"},
	{"it has its page elsewhere", "paged edi=B000 eax=5066 5105:4B4B4B4BEBFA", "40909089074142434440EBF4"},
	{"it maps its page elsewhere", "paged eax=5067 5105:4B4B4B4BF4 page=5:5:67", "A300B0000041424344EBF4"},
	{"it takes its page away", "paged eax=0", "A300B0000041424344EBF4"},
	{"it goes to other tables", "paged eax=C000 words=C000:D007 words=D000:5067 5103:4B4B4BF4", "0F22D841424344EBF4"},
	{"it turns pages on", "eax=80000001 page=0:5:67 5103:4B4B4BF4", "0F22C041424344EBF4"},
	{"it turns pages off", "paged eax=1 page=0:5:67 5100:0F22C041424344EBF4 103:4B4B4BF4", "90"},
	{"its page is forgotten", "paged", "400F013D0001000041EBF5"},
	{"it asks for one byte of a port", "edx=3F8", "40EC41EE42EBF9"},
	{"it opens and closes the gate", "edx=92 eax=0", "40EEB002EE41EBF8"},
	{"over pages", "paged eip=FFA page=1:7:7 FFA:4041B8010203 7000:044243F4", "90"},
	{"over pages, and back", "paged eip=FFC page=1:7:7 FFC:40B80102 7000:030441EBF7", "90"},
	{"over pages, the second of which is not there", "paged eip=FFC page=1:7:6 FFC:40B80102", "90"},
	{"over pages that it maps otherwise", "paged eax=5067 page=2:2:67 page=1:7:67 eip=FF8 FF8:41A304B0000066B8 7000:34124243F4 5000:78564B4BF4", "90"},
	{"round the end", "eip=FFFFFFFD cs.base=103", "404142434445EBF8"},
	{"code that is data", "paged in=3 page=0:0:65", "40414243A300010000EBF5"},
	{"moves to processor's words by another ring", "in=3", "400F20C041"},
	{"segments are loaded", "eax=10", "8ED88EC01E1F8CD8EBF6"},
}

// P20.3, P20.5: programs on their way, by limits of all kinds, and blocks of all kinds: each step is step.Step's, and the time behind them.
func TestScenarios(t *testing.T) {
	for _, x := range scenarios {
		for _, most := range []int{1, 2, 3, 4, 64} {
			for _, limits := range [][]int{{1}, {64}, {2}, {3, 1}, {5, 64, 1, 2}} {
				s := withCode(x.before, x.code)
				e, other := s.env(t), s.env(t)
				steps := 0
				for turn := 0; steps < 60 && !e.Cpu.Dead; turn++ {
					// The marks of one Fetch, that Make makes, are made in the other one, too.
					b, err := trans.Make(e, most)
					same, _ := trans.Make(other, most)
					if err != api.OK {
						b = made(t, s.env(t), most)
					} else if !slices.Equal(b.Insts(), same.Insts()) {
						t.Fatalf("%s: %+v; want %+v", x.name, b.Insts(), same.Insts())
					}
					what := fmt.Sprintf("%s, Make(%d), limits %v, step %d", x.name, most, limits, steps)
					steps += ran(t, what, b, e, other, limits[turn%len(limits)])
				}
				alike(t, x.name, e, other)
			}
		}
	}
}

// P20.3, P20.5: the same with the first block alone, again and again, wherever the processor is.
func TestOneBlockAgainAndAgain(t *testing.T) {
	for _, x := range scenarios {
		for _, most := range []int{1, 3, 64} {
			s := withCode(x.before, x.code)
			e, other := s.env(t), s.env(t)
			b := made(t, s.env(t), most)
			for turn := 0; turn < 60 && !e.Cpu.Dead; turn++ {
				ran(t, fmt.Sprintf("%s, Make(%d), turn %d", x.name, most, turn), b, e, other, 1+turn%7)
			}
			if e.Cpu.Dead && b.Run(e, 5) != 0 {
				t.Errorf("%s: a dead one did a step", x.name)
			}
			alike(t, x.name, e, other)
		}
	}
}

// P20.3: code in tables: asking for it once changes it, so that a block must not ask otherwise than step.Step does.
func TestRunOfTables(t *testing.T) {
	for _, before := range tableTerms {
		for _, from := range tableTerms {
			for most := 1; most <= 4; most++ {
				s := withCode(from, "90")
				b, err := trans.Make(s.env(t), most)
				if err != api.OK {
					continue
				}
				s = withCode(before, "90")
				e, other := s.env(t), s.env(t)
				for turn := range 6 {
					ran(t, fmt.Sprintf("%q by the block of %q, turn %d", before, from, turn), b, e, other, 1+turn)
				}
				alike(t, before, e, other)
			}
		}
	}
}

// P20.3: a block has the length it has, elsewhere, too: the bytes of an instruction that lay over pages, in one page, and the other way round.
func TestRunElsewhere(t *testing.T) {
	for _, code := range byLength {
		for ahead := range 4 {
			for _, to := range []uint32{0x3000 - 1, 0x3000 - 2, 0x3000 - uint32(len(code)), 0x3000 - uint32(len(code)) + 1, 0x2800} {
				s := fresh()
				s.apply("paged page=3:7:7")
				s.cpu.Eip = 0x3000 - uint32(ahead)
				text := fmt.Sprintf("%x4041", code)
				s.layCode(s.cpu.Eip, text)
				b := made(t, s.env(t), 64)
				s.cpu.Eip = to
				s.layCode(to, text)
				e, other := s.env(t), s.env(t)
				for range 3 {
					ran(t, fmt.Sprintf("% x at %#x, %d ahead", code, to, ahead), b, e, other, 64)
				}
				alike(t, text, e, other)
			}
		}
	}
}

// P20.3: while what was translated stands there, a run goes on to its end.
func TestRunsAreLong(t *testing.T) {
	s := withCode("clr=IF asks", mixed+"EB00")
	e := s.env(t)
	b := made(t, e, 64)
	if n := b.Run(e, 64); n != 11 || len(b.Insts()) != 11 {
		t.Errorf("%d of %d", n, len(b.Insts()))
	}
}

// R5: a block may be run in any environment, and two know nothing of each other.
func TestTwoEnvironments(t *testing.T) {
	s := withCode("set=IF", mixed+"EBE3")
	a, b, other := s.env(t), s.env(t), s.env(t)
	block := made(t, a, 64)
	ran(t, "the first one", block, a, other, 9)
	stateOf(b).holds(t, "the second one", s)
	ran(t, "the second one", block, b, s.env(t), 5)
	alike(t, "the first one", a, other)
}

// R1: no call panics or goes on for ever, whatever it is given.
func TestWhateverIsHandedIn(t *testing.T) {
	r := rand.New(rand.NewSource(20))
	s := randomProgram(r)
	e, other := s.env(t), s.env(t)
	var blocks []*trans.Block
	for n := range 6000 {
		if n%50 == 0 {
			for _, x := range []*exec.Env{e, other} {
				x.Mem.Flush()
				x.Mem.Ram().Load(0, s.mem)
			}
		}
		e.Cpu = drawnCpu(r)
		if r.Intn(2) == 0 {
			e.Cpu = s.cpu
		}
		other.Cpu = e.Cpu
		most := drawn(r)
		if r.Intn(2) == 0 {
			most = 1 + r.Intn(64)
		}
		b, err := trans.Make(e, most)
		if _, same := trans.Make(other, most); same != err || (b == nil) != (err != api.OK) {
			t.Fatalf("%v, %v", err, same)
		}
		if b != nil {
			blocks = append(blocks, b)
		}
		if len(blocks) == 0 {
			continue
		}
		b = blocks[r.Intn(len(blocks))]
		limit := drawn(r)
		done := b.Run(e, limit)
		if least := min(1, max(0, limit)); done > max(0, limit) || done > 64 || done < least && !other.Cpu.Dead {
			t.Fatalf("Run(%d): %d", limit, done)
		}
		stepsOf(other, done)
		if e.Cpu != other.Cpu || e.Bus.Now() != other.Bus.Now() {
			t.Fatalf("Run(%d): %d: %s", limit, done, unlike(e.Cpu, other.Cpu))
		}
	}
	if !bytes.Equal(e.Mem.Ram().Dump(0, 1<<16), other.Mem.Ram().Dump(0, 1<<16)) {
		t.Error("memory is other")
	}
}

// R1: parts that nobody made end no call either.
func TestEmptyParts(t *testing.T) {
	s := withCode("", "4041")
	whole := s.env(t)
	b := made(t, whole, 2)
	for _, parts := range []*bus.Bus{{}, whole.Bus} {
		e := &exec.Env{Cpu: whole.Cpu, Mem: &vmem.Mem{}, Bus: parts}
		refused(t, "no memory", e, 1, api.ErrTransNone)
		if n := b.Run(e, 9); n != 1 || !e.Cpu.Dead {
			t.Errorf("%d, %+v", n, e.Cpu)
		}
	}
	e := &exec.Env{Cpu: whole.Cpu, Mem: whole.Mem, Bus: &bus.Bus{}}
	if n := made(t, e, 2).Run(e, 1); n != 1 || e.Cpu.Eip != 0x101 {
		t.Errorf("%d, %+v", n, e.Cpu)
	}
}

// P20.3: pages are marked as step.Step marks them, and not ahead of that: behind each run, and what is watched is noted alike.
func TestRunMarks(t *testing.T) {
	for _, x := range []struct{ before, code string }{
		{"eip=FFC FFC:404142EB00", "90"},
		{"eip=FFC FFC:40414243 1000:404142", "90"},
		{"eip=FFB FFB:40B80102030441", "90"},
		{"eip=FFB FFB:40B80102030441 cs.limit=FFF", "90"},
		{"eip=FFB FFB:40B80102030441 cs.limit=FFE", "90"},
		{"eip=FFB FFB:40B80102030441 page=1:1:6", "90"},
		{"eip=FFB FFB:40EB7F404142", "90"},
		{"eip=FFA in=3 FFA:40B801020304F3A4 page=1:1:3", "90"},
		{"halted eip=FFB FFB:40B80102030441", "90"},
		{"asks set=IF eip=FFB FFB:40B80102030441", "90"},
		{"dying", "40"},
		{"", "40A30020000041A10030000042"},
	} {
		for _, most := range []int{1, 2, 64} {
			for limit := 1; limit < 5; limit++ {
				s := withCode("paged words=A000:B007 page=0:0:7 page=1:1:7 page=2:2:7 page=3:3:7 page=4:4:7 "+x.before, x.code)
				e, other := s.env(t), s.env(t)
				from := s.clone()
				from.cpu.Halted, from.cpu.Dead = false, false
				b, err := trans.Make(from.env(t), most)
				if err != api.OK {
					t.Fatalf("%+v: %v", x, err)
				}
				for range 3 {
					for _, each := range []*exec.Env{e, other} {
						for at := uint32(0); at < 1<<16; at += 64 {
							each.Mem.Ram().Watch(at)
						}
					}
					ran(t, fmt.Sprintf("%+v", x), b, e, other, limit)
					alike(t, fmt.Sprintf("%+v", x), e, other)
					if is, want := e.Mem.Ram().Written(), other.Mem.Ram().Written(); !slices.Equal(is, want) {
						t.Fatalf("%+v: %x were written; want %x", x, is, want)
					}
				}
			}
		}
	}
}

// P20.1: Make notes and watches nothing.
func TestMakeWatchesNothing(t *testing.T) {
	e := program(t, "paged", mixed)
	p := e.Mem.Ram()
	p.Watch(0x200)
	p.Watch(secondTable)
	p.Write(0x200, 1, 7)
	b := made(t, e, 64)
	b.Run(e, 2)
	if p.Watched(begin) || !p.Watched(secondTable) || !slices.Equal(p.Written(), []uint32{0x200}) {
		t.Error("it did")
	}
}
