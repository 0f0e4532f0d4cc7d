package vmem

import (
	"bytes"
	"math"
	"slices"
	"testing"

	"drawloom/api"
	"drawloom/ram"
)

var (
	both     = []bool{false, true}
	sizes    = []int{1, 2, 4}
	noSizes  = []int{0, 3, 5, 8, -1, 6, 7, 16, 257, 1 << 32, math.MinInt, math.MaxInt}
	segments = []int{api.Es, api.Cs, api.Ss, api.Ds, api.Fs, api.Gs}
	noSegs   = []int{-1, 6, 7, 8, 256, 1 << 32, math.MinInt, math.MaxInt}
)

// Written out, so that nothing here leans on what api tells.
var (
	none       = api.Fault{Vec: -1, Code: -1, Cr2: 0}
	protection = api.Fault{Vec: 13, Code: 0, Cr2: 0}
	stack      = api.Fault{Vec: 12, Code: 0, Cr2: 0}
)

func pageFault(code int, cr2 uint32) api.Fault { return api.Fault{Vec: 14, Code: code, Cr2: cr2} }

// call is one of the calls that tell a fault, with all that it is handed: at is an offset or a linear address.
type call struct {
	name string
	seg  int
	at   uint32
	size int
	v    uint32
}

// answer is all that a call tells: what it does not tell is 0.
type answer struct {
	v, at uint32
	f     api.Fault
}

var names = []string{"Load", "Check", "Store", "Sys", "SetSys", "Code"}

// writes tells whether a call asks for what may be written.
func (x call) writes() bool { return x.name == "Check" || x.name == "Store" || x.name == "SetSys" }

// itself tells whether the processor itself asks.
func (x call) itself() bool { return x.name == "Sys" || x.name == "SetSys" }

func (x call) of(m *Mem, c *api.Cpu) answer {
	var a answer
	switch x.name {
	case "Load":
		a.v, a.f = m.Load(c, x.seg, x.at, x.size)
	case "Check":
		a.f = m.Check(c, x.seg, x.at, x.size)
	case "Store":
		a.f = m.Store(c, x.seg, x.at, x.size, x.v)
	case "Sys":
		a.v, a.f = m.Sys(c, x.at, x.size)
	case "SetSys":
		a.f = m.SetSys(c, x.at, x.size, x.v)
	case "Code":
		var one byte
		one, a.at, a.f = m.Code(c, x.at)
		a.v = uint32(one)
	}
	return a
}

// flat is a processor of ring 0 whose segments are all of memory.
func flat() api.Cpu {
	c := api.Cpu{Cr0: 1}
	for _, seg := range segments {
		c.Seg[seg] = api.SegReg{Sel: 16, D: flatData()}
	}
	c.Seg[api.Cs] = api.SegReg{Sel: 8, D: flatData()}
	c.Seg[api.Cs].D.Type = 10
	return c
}

func flatData() api.Desc {
	return api.Desc{Limit: 0xFFFFFFFF, Type: 2, Present: true, Big: true}
}

func newRam(t *testing.T, pages int) *ram.Ram {
	t.Helper()
	p, err := ram.New(pages)
	if err != api.OK {
		t.Fatalf("ram.New(%d): %d", pages, err)
	}
	return p
}

func newMem(t *testing.T, p *ram.Ram, places int) *Mem {
	t.Helper()
	m, err := New(p, places)
	if err != api.OK || m == nil {
		t.Fatalf("New(%d): %v, %d", places, m, err)
	}
	return m
}

// rig is a memory of 16 pages, a Mem over it, and a flat processor.
type rig struct {
	t *testing.T
	p *ram.Ram
	m *Mem
	c api.Cpu
}

func newRig(t *testing.T) *rig {
	t.Helper()
	p := newRam(t, 16)
	return &rig{t: t, p: p, m: newMem(t, p, 4), c: flat()}
}

// Where the tables of a rig with pages lie: the first one, and the second ones of the lowest and of the highest four megabytes.
const (
	first   = 0x1000
	lowest  = 0x2000
	highest = 0x3000
)

// newPaged is a rig with pages: the first table lets everything, no page is there.
func newPaged(t *testing.T) *rig {
	t.Helper()
	r := newRig(t)
	r.c.Cr0 |= 1 << 31
	r.c.Cr3 = first
	r.lay(first, lowest|7)
	r.lay(first+4*1023, highest|7)
	return r
}

// lay lays a word, also where nothing may be written.
func (r *rig) lay(at, word uint32) {
	r.p.Load(at, []byte{byte(word), byte(word >> 8), byte(word >> 16), byte(word >> 24)})
}

// second is where the second word of a page lies, in the lowest or in the highest four megabytes.
func second(lin uint32) uint32 {
	if lin < 1<<22 {
		return lowest + lin/4096*4
	}
	return highest + lin/4096%1024*4
}

// page lays the second word of a page.
func (r *rig) page(lin, word uint32) { r.lay(second(lin), word) }

func (r *rig) ring(n int) { r.c.Seg[api.Cs].Sel = 8 + uint16(n) }

func (r *rig) protect(on bool) {
	r.c.Cr0 &^= 1 << 16
	if on {
		r.c.Cr0 |= 1 << 16
	}
}

func (r *rig) dump() []byte { return r.p.Dump(0, r.p.Len()) }

// is holds a word of memory against what it should be.
func (r *rig) is(at, want uint32) {
	r.t.Helper()
	if is, _ := r.p.Read(at, 4); is != want {
		r.t.Errorf("at %#x: the word %#x; want %#x", at, is, want)
	}
}

// does holds an answer against what it should be; the processor is never changed.
func (r *rig) does(x call, want answer) {
	r.t.Helper()
	c := r.c
	if is := x.of(r.m, &r.c); is != want {
		r.t.Errorf("%+v: %+v; want %+v", x, is, want)
	}
	if r.c != c {
		r.t.Errorf("%+v changed the processor: %+v; was %+v", x, r.c, c)
	}
}

// faults is does of a fault, beside which all else is 0; but for what a test looks at then, memory is not changed, nor written to.
func (r *rig) faults(x call, f api.Fault) {
	r.t.Helper()
	was := r.dump()
	watchAll(r.p)
	r.does(x, answer{f: f})
	if !bytes.Equal(r.dump(), was) {
		r.t.Errorf("%+v changed memory", x)
	}
	if noted := r.p.Written(); len(noted) != 0 {
		r.t.Errorf("%+v wrote in %#x", x, noted)
	}
}

// watchAll watches every granule, and forgets what was noted till then.
func watchAll(p *ram.Ram) {
	for at := 0; at < p.Len(); at += 64 {
		p.Watch(uint32(at))
	}
	p.Written()
}

// bytesOf are the bytes of a value, the lowest first.
func bytesOf(v uint32, size int) []byte {
	var out []byte
	for range size {
		out = append(out, byte(v%256))
		v /= 256
	}
	return out
}

// cut is what a value of a size is.
func cut(v uint32, size int) uint32 {
	return uint32(uint64(v) % (uint64(1) << (8 * size)))
}

func (r *rig) bytesAt(at uint32, want ...byte) {
	r.t.Helper()
	if is := r.p.Dump(at, len(want)); !slices.Equal(is, want) {
		r.t.Errorf("at %#x: %#x; want %#x", at, is, want)
	}
}
