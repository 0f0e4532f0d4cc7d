package exec_test

import (
	"fmt"
	"testing"

	"drawloom/alu"
	"drawloom/api"
	"drawloom/exec"
)

// P17.3, IString: one round of each, of each size, up and down.
func TestStrings(t *testing.T) {
	runAll(t, []row{
		{"A4", "clr=DF 2000:5A", "3000:5A esi=2001 edi=3001"},
		{"A4", "set=DF 2000:5A", "3000:5A esi=1FFF edi=2FFF"},
		{"66 A5", "clr=DF 2000:5A6B", "3000:5A6B esi=2002 edi=3002"},
		{"66 A5", "set=DF 2000:5A6B", "3000:5A6B esi=1FFE edi=2FFE"},
		{"A5", "clr=DF 2000:5A6B7C8D", "3000:5A6B7C8D esi=2004 edi=3004"},
		{"A5", "set=DF 2000:5A6B7C8D", "3000:5A6B7C8D esi=1FFC edi=2FFC"},

		{"A6", "clr=DF 2000:05 3000:07", "f=CF+AF+SF esi=2001 edi=3001"},
		{"A6", "set=DF 2000:07 3000:05", "f=- esi=1FFF edi=2FFF"},
		{"66 A7", "clr=DF 2000:0580 3000:0500", "f=SF+PF esi=2002 edi=3002"},
		{"66 A7", "set=DF 2000:0500 3000:0500", "f=ZF+PF esi=1FFE edi=2FFE"},
		{"A7", "clr=DF 2000:00000080 3000:01000000", "f=AF+OF+PF esi=2004 edi=3004"},
		{"A7", "set=DF 2000:78563412 3000:78563412", "f=ZF+PF esi=1FFC edi=2FFC"},

		{"AA", "clr=DF al=5A", "3000:5A edi=3001"},
		{"AA", "set=DF al=5A", "3000:5A edi=2FFF"},
		{"66 AB", "clr=DF eax=12345678", "3000:7856 edi=3002"},
		{"66 AB", "set=DF eax=12345678", "3000:7856 edi=2FFE"},
		{"AB", "clr=DF eax=12345678", "3000:78563412 edi=3004"},
		{"AB", "set=DF eax=12345678", "3000:78563412 edi=2FFC"},

		{"AC", "clr=DF 2000:5A", "al=5A esi=2001"},
		{"AC", "set=DF 2000:5A", "al=5A esi=1FFF"},
		{"66 AD", "clr=DF 2000:7856", "ax=5678 esi=2002"},
		{"66 AD", "set=DF 2000:7856", "ax=5678 esi=1FFE"},
		{"AD", "clr=DF 2000:78563412", "eax=12345678 esi=2004"},
		{"AD", "set=DF 2000:78563412", "eax=12345678 esi=1FFC"},

		{"AE", "clr=DF al=5 3000:07", "f=CF+AF+SF edi=3001"},
		{"AE", "set=DF al=7 3000:05", "f=- edi=2FFF"},
		{"66 AF", "clr=DF eax=12348005 3000:0500", "f=SF+PF edi=3002"},
		{"66 AF", "set=DF ax=5 3000:0500", "f=ZF+PF edi=2FFE"},
		{"AF", "clr=DF eax=80000000 3000:01000000", "f=AF+OF+PF edi=3004"},
		{"AF", "set=DF eax=12345678 3000:78563412", "f=ZF+PF edi=2FFC"},
	})
}

// P17.3, IString: the flags are those of Cmp, what was found ahead, or read first, less the other one.
func TestComparedStrings(t *testing.T) {
	for _, size := range []int{1, 2, 4} {
		prefix, step := "", uint32(size)
		byte0, byte4 := "A7", "AF"
		switch size {
		case 1:
			byte0, byte4 = "A6", "AE"
		case 2:
			prefix = "66"
		}
		name := map[int]string{1: "al", 2: "ax", 4: "eax"}[size]
		for _, pair := range pairs {
			_, marks, err := alu.Do(api.Cmp, size, pair[0], pair[1], 0)
			if err != api.OK {
				t.Fatal(err)
			}
			row{prefix + byte0, "clr=DF " + at("m2000", size, pair[0]) + " " + at("m3000", size, pair[1]), names(marks) + " " + at("esi", 4, 0x2000+step) + " " + at("edi", 4, 0x3000+step)}.run(t)
			row{prefix + byte4, "clr=DF " + at(name, size, pair[0]) + " " + at("m3000", size, pair[1]), names(marks) + " " + at("edi", 4, 0x3000+step)}.run(t)
		}
	}
}

// P17.3, IString: which segments are asked, and that the ends go round.
func TestSegmentsOfStrings(t *testing.T) {
	runAll(t, []row{
		{"64 A4", "clr=DF fs.base=100 ds.base=80 es.base=200 2100:5A", "3200:5A esi=2001 edi=3001"},
		{"A4", "clr=DF ds.base=100 es.base=200 2100:5A", "3200:5A esi=2001 edi=3001"},
		{"64 A6", "clr=DF fs.base=100 es.base=200 2100:05 3200:05", "f=ZF+PF esi=2001 edi=3001"},
		{"64 AA", "clr=DF fs.base=100 es.base=200 al=5A", "3200:5A edi=3001"},
		{"64 AC", "clr=DF fs.base=100 es.base=200 2100:5A", "al=5A esi=2001"},
		{"64 AE", "clr=DF fs.base=100 es.base=200 al=5 3200:05", "f=ZF+PF edi=3001"},
		{"2E AC", "clr=DF cs.base=100 2100:5A", "al=5A esi=2001"},
		{"A4", "clr=DF esi=FFFFFFFF ds.base=2001 edi=FFFFFFFF es.base=3001 2000:5A", "3000:5A esi=0 edi=0"},
		{"A5", "set=DF esi=0 ds.base=2000 edi=2 es.base=2FFE 2000:5A6B7C8D", "3000:5A6B7C8D esi=FFFFFFFC edi=FFFFFFFE"},
		{"AA", "clr=DF ds=0 al=5A", "3000:5A edi=3001"},
		{"AE", "clr=DF ds=0 al=5 3000:05", "f=ZF+PF edi=3001"},
		{"AC", "clr=DF es=0 2000:5A", "al=5A esi=2001"},
		{"A6", "clr=DF ds=28 es=28 2000:05 3000:05", "f=ZF+PF esi=2001 edi=3001"},
		{"A4", "clr=DF ds=28 2000:5A", "3000:5A esi=2001 edi=3001"},
		{"A4", "es=28", "#GP(0)"},
		{"AA", "es=28", "#GP(0)"},
		{"A4", "ds=0", "#GP(0)"},
		{"A6", "ds=0", "#GP(0)"},
		{"A6", "es=0", "#GP(0)"},
		{"AC", "ds=0", "#GP(0)"},
		{"AE", "es=0", "#GP(0)"},
		{"AB", "es.limit=3002", "#GP(0)"},
		{"AD", "ds.limit=2002", "#GP(0)"},
		{"36 AC", "ss.limit=1FFF", "#SS(0)"},
		{"36 A4", "ss.limit=1FFF es=0", "#SS(0)"},
		{"36 A6", "ss.limit=1FFF es=0", "#SS(0)"},
		{"36 A4", "es=0", "#GP(0)"},
	})
}

// P17.3, IString, repeated: ECX, all of it, is one less each round; Eip stays till the last one.
func TestRepeatedStrings(t *testing.T) {
	for _, rep := range []string{"F3", "F2"} {
		for _, zf := range []string{"f=ZF", "f=-"} {
			runAll(t, []row{
				{rep + "A4", zf + " clr=DF ecx=2 2000:5A", "3000:5A esi=2001 edi=3001 ecx=1 eip=100"},
				{rep + "A4", zf + " clr=DF ecx=1 2000:5A", "3000:5A esi=2001 edi=3001 ecx=0"},
				{rep + "A4", zf + " set=DF ecx=FFFFFFFF 2000:5A", "3000:5A esi=1FFF edi=2FFF ecx=FFFFFFFE eip=100"},
				{rep + "66 A5", zf + " clr=DF ecx=10000 2000:5A6B", "3000:5A6B esi=2002 edi=3002 ecx=FFFF eip=100"},
				{rep + "A5", zf + " clr=DF ecx=3 2000:5A6B7C8D", "3000:5A6B7C8D esi=2004 edi=3004 ecx=2 eip=100"},
				{rep + "AA", zf + " clr=DF ecx=2 al=5A", "3000:5A edi=3001 ecx=1 eip=100"},
				{rep + "66 AB", zf + " clr=DF ecx=1 ax=5A6B", "3000:6B5A edi=3002 ecx=0"},
				{rep + "AB", zf + " clr=DF ecx=2 eax=12345678", "3000:78563412 edi=3004 ecx=1 eip=100"},
				{rep + "AC", zf + " clr=DF ecx=2 2000:5A", "al=5A esi=2001 ecx=1 eip=100"},
				{rep + "AD", zf + " clr=DF ecx=1 2000:78563412", "eax=12345678 esi=2004 ecx=0"},
				{rep + "A4", zf + " ecx=0 ds=0 es=0", ""},
				{rep + "A6", zf + " ecx=0 ds=0 es=0", ""},
				{rep + "AA", zf + " ecx=0 es=0", ""},
				{rep + "AC", zf + " ecx=0 ds=0", ""},
				{rep + "AE", zf + " ecx=0 es=0", ""},
				{rep + "A4", zf + " ecx=2 es=0", "#GP(0)"},
				{rep + "AC", zf + " ecx=2 ds=0", "#GP(0)"},
				{rep + "66 A4", zf + " clr=DF ecx=2 2000:5A eip=12340100", "3000:5A esi=2001 edi=3001 ecx=1 eip=12340100"},
			})
		}
	}
	runAll(t, []row{
		{"A4", "clr=DF ecx=0 2000:5A", "3000:5A esi=2001 edi=3001"},
		{"AE", "clr=DF ecx=0 al=5 3000:05", "f=ZF+PF edi=3001"},
	})
}

// P17.3, IString, repeated while it is equal, and while it is not: asked of the flags behind the round.
func TestRepeatedComparisons(t *testing.T) {
	for _, c := range []struct {
		prefix, other string
		left          int
		stays         bool
	}{
		{"F3", "05", 2, true}, {"F3", "05", 1, false}, {"F3", "04", 2, false}, {"F3", "04", 1, false},
		{"F2", "05", 2, false}, {"F2", "05", 1, false}, {"F2", "04", 2, true}, {"F2", "04", 1, false},
		{"F3", "05", 0x10000, true}, {"F2", "04", 0x10000, true},
	} {
		flags, eip := "f=-", ""
		if c.other == "05" {
			flags = "f=ZF+PF"
		}
		if c.stays {
			eip = " eip=100"
		}
		for _, was := range []string{"f=ZF", "f=-"} {
			before := fmt.Sprintf("%s clr=DF ecx=%x al=5 2000:05 3000:%s", was, c.left, c.other)
			after := fmt.Sprintf("%s ecx=%x%s edi=3001", flags, c.left-1, eip)
			row{c.prefix + "A6", before, after + " esi=2001"}.run(t)
			row{c.prefix + "AE", before, after}.run(t)
			before = fmt.Sprintf("%s clr=DF ecx=%x eax=5 2000:05000000 3000:%s000000", was, c.left, c.other)
			after = fmt.Sprintf("%s ecx=%x%s edi=3004", flags, c.left-1, eip)
			row{c.prefix + "A7", before, after + " esi=2004"}.run(t)
			row{c.prefix + "AF", before, after}.run(t)
		}
	}
}

// P17.1, P17.5: a fault in a round leaves what the rounds ahead did, and the processor at that round; then it goes on where it was.
func TestFaultsInARound(t *testing.T) {
	before := fresh()
	before.apply("clr=DF ecx=5 es.limit=3002 2000:1112131415")
	e := before.env(t)
	x := inst(t, bytesOf("F3 A4"))
	want := before.clone()
	for n := range uint32(3) {
		want.apply(fmt.Sprintf("ecx=%x esi=%x edi=%x %x:%02x", 4-n, 0x2001+n, 0x3001+n, 0x3000+n, 0x11+n))
		stateOf(e, exec.Do(e, x)).holds(t, fmt.Sprintf("round %d", n), want)
	}
	want.apply("#GP(0)")
	for range 2 {
		stateOf(e, exec.Do(e, x)).holds(t, "the round that faults", want)
	}
	e.Cpu.Seg[api.Es].D.Limit = all
	want.cpu.Seg[api.Es].D.Limit = all
	want.out = none
	want.apply("ecx=1 esi=2004 edi=3004 3003:14")
	stateOf(e, exec.Do(e, x)).holds(t, "the round anew", want)
	want.apply("ecx=0 esi=2005 edi=3005 3004:15 eip=102")
	stateOf(e, exec.Do(e, x)).holds(t, "the last round", want)
}

// P17.5: something else is done between the rounds, at another place: what it leaves of the processor goes on as if it had not been.
func TestInterruptedBetweenRounds(t *testing.T) {
	before := fresh()
	before.apply("clr=DF ecx=40 eax=12345678")
	e := before.env(t)
	x, other := inst(t, bytesOf("F3 AB")), inst(t, bytesOf("B8 00000000"))
	rounds := 0
	for e.Cpu.Eip == 0x100 && rounds < 100 {
		exec.Do(e, x)
		rounds++
		kept := e.Cpu
		e.Cpu.Eip = 0x500
		exec.Do(e, other)
		e.Cpu = kept
	}
	if rounds != 0x40 {
		t.Errorf("%d rounds", rounds)
	}
	want := before.clone()
	want.apply("ecx=0 edi=3100 eip=102")
	want.cpu.Shadow = false
	for n := range uint32(0x40) {
		want.lay(0x3000+4*n, word(0x12345678)...)
	}
	stateOf(e, none).holds(t, "all rounds", want)
}
