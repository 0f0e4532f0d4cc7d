package exec_test

import (
	"testing"

	"drawloom/api"
	"drawloom/exec"
)

// readers read at 2000 alone, writers write there alone, and both read what they write.
var (
	readers = []string{
		"02 3E", "03 1E", "38 3E", "39 1E", "3A 3E", "84 3E", "85 1E", "80 3E 05", "83 3E 05", "F6 06 05", "F7 06 05000000",
		"F6 26", "F7 2E", "66 F7 2E", "F6 36", "F7 3E", "0F AF 1E", "69 1E 05000000", "6B 1E 05",
		"8A 3E", "8B 1E", "66 8B 1E", "A0 00200000", "A1 00200000", "8E 1E", "8E 16", "0F B6 1E", "0F B7 1E", "0F BE 1E", "0F BF 1E",
		"FF 36", "66 FF 36", "0F A3 1E", "0F BA 26 05", "0F BC 1E", "0F BD 1E", "0F 44 1E", "0F 45 1E",
		"FF 26", "66 FF 26", "FF 16", "66 FF 16", "A4", "A5", "A6", "A7", "AC", "AD", "F3 A4", "F2 A6", "0F 01 16", "0F 01 1E", "0F 00 1E",
	}
	writers = []string{"88 3E", "89 1E", "66 89 1E", "A2 00200000", "A3 00200000", "C6 06 05", "C7 06 05000000", "8C 1E", "0F 94 06", "0F 95 06", "8F 06", "66 8F 06"}
	both    = []string{
		"00 3E", "01 1E", "08 3E", "11 1E", "18 3E", "21 1E", "28 3E", "31 1E", "80 06 05", "81 06 05000000", "83 06 05", "F6 16", "F7 1E", "FE 06", "FE 0E", "FF 06", "FF 0E",
		"C0 26 01", "C1 26 00", "D0 2E", "D1 2E", "D2 3E", "D3 06", "0F A4 1E 01", "0F AC 1E 00", "0F A5 1E", "0F AD 1E",
		"86 3E", "87 1E", "66 87 1E", "0F AB 1E", "0F B3 1E", "0F BB 1E", "0F BA 2E 05", "0F BA 36 05", "0F BA 3E 05",
	}
)

// P17.1, P17.3: what is read to write it is asked for writing first: so the page fault says, and what can only be read.
func TestReadingToWrite(t *testing.T) {
	const before = "ebx=5 cl=0 "
	for _, code := range readers {
		runPaged(t, []row{{code, before + "B008:00000000", "#PF(0,2000)"}})
	}
	for _, code := range append(writers, both...) {
		runPaged(t, []row{
			{code, before + "B008:00000000", "#PF(2,2000)"},
			{code, before + "B008:00000000 cr0=80010001", "#PF(2,2000)"},
			{code, before + "B008:65200000 cr0=80010001", "#PF(3,2000)"},
			{code, before + "B008:65200000 ring=3", "#PF(7,2000)"},
			{code, before + "B008:63200000 ring=3", "#PF(7,2000)"},
			{code, before + "ds=28", "#GP(0)"},
			{code, before + "ds=28 B008:00000000", "#GP(0)"},
		})
	}
	runPaged(t, []row{
		{"38 3E", "B008:65200000 cr0=80010001 bh=5 2000:05", "f=ZF+PF"},
		{"38 3E", "B008:65200000 ring=3 bh=5 2000:05", "f=ZF+PF"},
		{"38 3E", "B008:63200000 ring=3", "#PF(5,2000)"},
		{"8B 1E", "B008:63200000 ring=3", "#PF(5,2000)"},
		{"38 3E", "B008:00000000 ring=3", "#PF(4,2000)"},
		{"00 3E", "B008:65200000 bh=5 2000:05 f=-", "2000:0A f=PF"},
	})
}

// P17.1: marks in tables: written of what is written or asked for writing, also where nothing becomes other.
func TestMarks(t *testing.T) {
	runPaged(t, []row{
		{"38 3E", "B008:07200000 bh=5 2000:05", "f=ZF+PF B008:27200000"},
		{"84 3E", "B008:07200000 bh=2 2000:05", "f=ZF+PF B008:27200000"},
		{"8A 3E", "B008:07200000 2000:05", "bh=5 B008:27200000"},
		{"0F BA 26 05", "B008:07200000 2000:00 f=-", "f=- B008:27200000"},
		{"0F 44 1E", "f=- B008:07200000", "B008:27200000"},
		{"00 3E", "B008:07200000 bh=0 2000:05 f=-", "f=PF B008:67200000"},
		{"C0 26 00", "B008:07200000", "B008:67200000"},
		{"0F A4 1E 00", "B008:07200000", "B008:67200000"},
		{"87 1E", "B008:07200000 ebx=5 2000:05000000", "B008:67200000"},
		{"0F BA 36 05", "B008:07200000 2000:00 f=-", "f=- B008:67200000"},
		{"88 3E", "B008:07200000 bh=5 2000:05", "B008:67200000"},
		{"0F 94 06", "B008:07200000 f=ZF", "2000:01 B008:67200000"},
		{"8D 1E", "B008:07200000", "ebx=2000"},
		{"0F 01 3E", "B008:07200000", ""},
		{"8E DB", "B000:07000000 bx=10", "ds=10 B000:27000000"},
		{"F3 A4", "B008:07200000 ecx=0", ""},
	})
}

// P17.1: the first fault ends it, and the marks that were made ahead of it stay.
func TestWhichFaultComesFirst(t *testing.T) {
	runPaged(t, []row{
		{"FF 36", "B008:07200000 B020:00000000", "#PF(2,8FFC) B008:27200000"},
		{"FF 36", "B008:00000000 B020:00000000", "#PF(0,2000)"},
		{"8F 06", "B024:07900000 B008:00000000", "#PF(2,2000) B024:27900000"},
		{"8F 06", "B024:00000000 B008:00000000", "#PF(0,9000)"},
		{"A4", "B008:07200000 B00C:00000000", "#PF(2,3000) B008:27200000"},
		{"A4", "B008:00000000 B00C:00000000", "#PF(0,2000)"},
		{"A6", "B008:07200000 B00C:00000000", "#PF(0,3000) B008:27200000"},
		{"A6", "B008:00000000 B00C:00000000", "#PF(0,2000)"},
		{"A6", "B008:07200000 es=0", "#GP(0) B008:27200000"},
		{"AA", "B00C:00000000", "#PF(2,3000)"},
		{"AE", "B00C:00000000", "#PF(0,3000)"},
		{"F6 36", "B008:07200000 2000:00", "#DE B008:27200000"},
		{"FF 26", "B008:07200000 cs.limit=0", "#GP(0) B008:27200000"},
		{"FF 16", "B008:07200000 B020:00000000 cs.limit=0", "#GP(0) B008:27200000"},
		{"FF 16", "B008:07200000 B020:00000000", "#PF(2,8FFC) B008:27200000"},
		{"E8 00000000", "B020:00000000", "#PF(2,8FFC)"},
		{"C3", "B024:07900000 cs.limit=0", "#GP(0) B024:27900000"},
		{"8E 1E", "B008:07200000 B000:00000000 2000:1000", "#PF(0,810) B008:27200000"},
		{"8E 1E", "B008:07200000 2000:3000", "#NP(30) B008:27200000"},
		{"8E 16", "B008:07200000 2000:0000", "#GP(0) B008:27200000"},
		{"1F", "B024:07900000 9000:30000000", "#NP(30) B024:27900000"},
		{"0F 00 1E", "B008:07200000 B000:00000000 2000:6000", "#PF(0,860) B008:27200000"},
		{"0F 00 1E", "B008:07200000 2000:0000", "#GP(0) B008:27200000"},
		{"0F 01 16", "B008:07200000 B00C:00000000 esi=2FFE", "#PF(0,3000) B008:27200000"},
		{"0F 01 1E", "B008:07200000 B00C:00000000 esi=2FFE", "#PF(0,3000) B008:27200000"},
		{"EA 00000000 0800", "B000:00000000", "#PF(0,808)"},
		{"EA 00000000 3000", "B000:07000000", "#GP(30) B000:27000000"},
		{"87 1E", "B008:07200000 ds=28", "#GP(0)"},
		{"C9", "B008:00000000 ebp=2000", "#PF(0,2000)"},
		{"9D", "B024:00000000", "#PF(0,9000)"},
		{"50", "esp=8002 B020:00000000", "#PF(2,8000)"},
		{"50", "esp=8002 B01C:00000000 B020:00000000", "#PF(2,7FFE)"},
		{"60", "esp=8010 B01C:00000000", "#PF(2,7FFC) 8000:" + packed("B3B2B1B0 D3D2D1D0 C3C2C1C0 A3A2A1A0")},
		{"60", "esp=8002 B020:07800000 B01C:07700000 B018:00000000", "8000:A1A0 7FE2:" + packed("00300000 00200000 00910000 02800000 B3B2B1B0 D3D2D1D0 C3C2C1C0 A3A2A1A0") + " B020:67800000 B01C:67700000 esp=7FE2"},
		{"61", "esp=8FF0 B024:00000000", "#PF(0,9000)"},
		{"61", "esp=8FF0 B020:07800000 B024:00000000", "#PF(0,9000) B020:27800000"},
		{"EE", "ring=3 iopl=0 B008:00000000", "#GP(0)"},
	})
}

// do does instructions, each of which must end without a fault.
func do(t *testing.T, e *exec.Env, codes ...string) {
	t.Helper()
	for _, code := range codes {
		if out := exec.Do(e, inst(t, bytesOf(code))); out != none {
			t.Fatalf("%s: %+v", code, out)
		}
	}
}

func eax(t *testing.T, e *exec.Env, want uint32) {
	t.Helper()
	if is := e.Cpu.R[api.Eax]; is != want {
		t.Errorf("eax %#x; want %#x", is, want)
	}
}

// P17.3, IMovcr: pages that were found ahead are found anew by the new tables, whatever was kept.
func TestNewTables(t *testing.T) {
	s := paged()
	s.apply("C000:27D00000 D000:67000000 D008:67500000 2000:78563412 5000:EFCDAB89 ebx=C000 edx=A000")
	e := s.env(t)
	do(t, e, "8B 06")
	eax(t, e, 0x12345678)
	do(t, e, "0F 22 DB", "8B 06")
	eax(t, e, 0x89ABCDEF)
	do(t, e, "0F 22 DA", "8B 06")
	eax(t, e, 0x12345678)
}

// P17.3, IMovcr: pages begin and end with PG.
func TestPagesBegin(t *testing.T) {
	s := paged()
	s.apply("cr0=1 B008:67500000 2000:78563412 5000:EFCDAB89 ebx=80000001 edx=1")
	e := s.env(t)
	do(t, e, "8B 06")
	eax(t, e, 0x12345678)
	do(t, e, "0F 22 C3", "8B 06")
	eax(t, e, 0x89ABCDEF)
	do(t, e, "0F 22 C2", "8B 06")
	eax(t, e, 0x12345678)
}

// P17.3, IInvlpg: a page that was found ahead is found anew when its word was changed.
func TestPageDropped(t *testing.T) {
	s := paged()
	s.apply("2000:78563412 5000:EFCDAB89 fs.base=1000")
	e := s.env(t)
	do(t, e, "8B 06")
	eax(t, e, 0x12345678)
	do(t, e, "C7 05 08B00000 67500000", "0F 01 3E", "8B 06")
	eax(t, e, 0x89ABCDEF)
	do(t, e, "C7 05 08B00000 67200000", "64 0F 01 3D 00100000", "8B 06")
	eax(t, e, 0x12345678)
}
