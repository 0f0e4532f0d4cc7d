package vmem

import (
	"bytes"
	"slices"
	"testing"

	"drawloom/api"
	"drawloom/page"
	"drawloom/ram"
	"drawloom/segment"
)

// plain answers a call by the document's words alone: each byte's page is found anew, and each byte is read or written by itself.
func plain(p *ram.Ram, c *api.Cpu, x call) answer {
	size := x.size
	if x.name == "Code" {
		size = 1
	}
	lin, f := plainAddress(c, x)
	if f != none {
		return answer{f: f}
	}
	places := make([]uint32, size)
	for n := range places {
		at := lin + uint32(n)
		places[n] = at
		if c.Cr0>>31 == 0 {
			continue
		}
		w := api.Way{Write: x.writes(), User: c.Seg[api.Cs].Sel%4 == 3 && !x.itself(), Wp: c.Cr0>>16&1 == 1}
		// Only the first byte in a page asks: another walk might mark what the first one did not.
		if n > 0 && at%4096 != 0 {
			places[n] = places[n-1] + 1
			continue
		}
		walk, code, _ := page.Find(p, c.Cr3, at, w)
		if code >= 0 {
			return answer{f: pageFault(code, at)}
		}
		places[n] = walk.Frame + at%4096
	}
	return plainBytes(p, x, places)
}

func plainAddress(c *api.Cpu, x call) (uint32, api.Fault) {
	if x.name == "Code" {
		d := c.Seg[api.Cs].D
		if x.at > d.Limit {
			return 0, protection
		}
		return d.Base + x.at, none
	}
	if !slices.Contains(sizes, x.size) {
		return 0, protection
	}
	if x.itself() {
		return x.at, none
	}
	if !slices.Contains(segments, x.seg) {
		return 0, protection
	}
	s := c.Seg[x.seg]
	if s.Null || !segment.Reach(s.D, x.at, x.size, x.writes()) {
		return 0, vectorFor(x.seg)
	}
	return s.D.Base + x.at, none
}

func plainBytes(p *ram.Ram, x call, places []uint32) answer {
	a := answer{f: none}
	for n, place := range places {
		switch x.name {
		case "Load", "Sys", "Code":
			one, _ := p.Read(place, 1)
			a.v += one << (8 * n)
		case "Store", "SetSys":
			p.Write(place, 1, x.v>>(8*n))
		}
	}
	if x.name == "Code" {
		a.at = places[0]
	}
	return a
}

// dice are numbers that are the same in every run.
type dice uint64

func (d *dice) below(n int) int {
	*d = *d*6364136223846793005 + 1442695040888963407
	return int(uint64(*d) >> 33 % uint64(n))
}

func (d *dice) one(of ...uint32) uint32 { return of[d.below(len(of))] }

// life is one memory of 16 pages with a processor, by Mems of its own, or by none.
type life struct {
	p *ram.Ram
	c []api.Cpu
	m []*Mem
}

func newLife(t *testing.T, places ...int) *life {
	l := &life{p: newRam(t, 16), c: []api.Cpu{flat(), flat()}}
	for _, n := range places {
		l.m = append(l.m, newMem(t, l.p, n))
	}
	for i := range l.c {
		l.c[i].Cr0 |= 1 << 31
		l.c[i].Cr3 = 0x1000
	}
	return l
}

// change is something that a program does beside its calls; all lives do it alike.
func change(d *dice) func(l *life) {
	kind, who := d.below(12), d.below(2)
	word := d.one(0x1000, 0x2000, 0x3000, 0x4000, 0x7000, 0xF000) + uint32(d.below(0x1000))&^d.one(0, 3)&^d.one(0, 0xE0, 0xFFF)
	at := d.one(0x1000, 0x2000, 0x3000) + 4*d.one(0, 1, 2, 5, 6, 1023)
	bits := d.one(0, 1, 2, 3, 5, 6, 7, 7, 7)
	seg := segments[d.below(6)]
	base := d.one(0, 0, 0, 1, 0xFFC, 0xFFFFF000, 0xFFFFFFFE)
	limit := d.one(0xFFFFFFFF, 0xFFFFFFFF, 0x6FFF, 0x1000)
	lower := d.below(16)
	return func(l *life) {
		c := &l.c[who]
		switch kind {
		case 0, 1, 2:
			l.p.Load(at, bytesOf(word&^7|bits, 4))
		case 3:
			l.p.Write(at, 4, word&^7|bits)
		case 4:
			c.Seg[api.Cs].Sel = 8 + uint16(bits)%4
		case 5:
			c.Cr0 ^= 1 << 16
		case 6:
			c.Cr3 = word
		case 7:
			c.Cr0 |= 1 << 31
			c.Cr3 = 0x1000
		case 8:
			c.Cr0 ^= uint32(lower/15) << 31
		case 9:
			l.p.Gate(bits != 0)
		case 10:
			l.p.Rom(int(at/4096), bits == 0)
		case 11:
			c.Seg[seg].D.Base, c.Seg[seg].D.Limit = base, limit
			c.Seg[seg].D.Type = int(bits)
			c.Seg[seg].Null = lower == 0
		}
	}
}

// forget flushes or drops, or does neither.
func forget(d *dice) func(m *Mem) {
	kind, lin := d.below(8), uint32(d.below(8))*4096+uint32(d.below(4096))
	return func(m *Mem) {
		switch kind {
		case 0:
			m.Flush()
		case 1, 2:
			m.Drop(lin)
		}
	}
}

func someCall(d *dice) call {
	at := d.one(0, 0x1000, 0x2000, 0x5000, 0x6000, 0x400000, 0xFFFFF000) + d.one(0, 1, 4, 0xFFC, 0xFFD, 0xFFE, 0xFFF, uint32(d.below(4096)))
	return call{
		name: names[d.below(len(names))],
		seg:  d.below(7) - d.below(20)/19,
		at:   at,
		size: int(d.one(1, 2, 4, 4, 4, 2, 1, 4, 2, 3)),
		v:    d.one(0x5007, 0x7067, 0x4005, uint32(d.below(1<<31))),
	}
}

// P16.1, P16.6: what is kept, how much, and when it is forgotten, is not seen: every life is as the one that keeps nothing, of which each answer is the document's. Two Mems over one memory, and two processors over one Mem, are not seen either.
func TestWhatIsKeptIsNotSeen(t *testing.T) {
	told := map[int]int{}
	for seed := range 40 {
		d := dice(seed)
		bare := newLife(t)
		lives := []*life{
			newLife(t, 0), newLife(t, 1), newLife(t, 2), newLife(t, 64),
			newLife(t, 64, 64), newLife(t, 1, 0, 5),
		}
		for turn := range 1500 {
			if d.below(3) == 0 {
				each := change(&d)
				each(bare)
				for _, l := range lives {
					each(l)
				}
			}
			watched := d.one(0x1000, 0x2000, 0x3000, 0x5000, 0x7000) + 64*uint32(d.below(64))
			bare.p.Watch(watched)
			x, who, which, drop := someCall(&d), d.below(2), d.below(6), forget(&d)
			want := plain(bare.p, &bare.c[who], x)
			told[want.f.Vec]++
			for n, l := range lives {
				m := l.m[which%len(l.m)]
				drop(m)
				l.p.Watch(watched)
				was := l.c[who]
				if is := x.of(m, &l.c[who]); is != want {
					t.Fatalf("seed %d, turn %d, life %d: %+v of %+v: %+v; want %+v", seed, turn, n, x, was, is, want)
				}
				if l.c[who] != was {
					t.Fatalf("seed %d, turn %d, life %d: %+v changed the processor", seed, turn, n, x)
				}
			}
			if turn%16 == 0 {
				for n, l := range lives {
					if !bytes.Equal(l.p.Dump(0, 0x10000), bare.p.Dump(0, 0x10000)) {
						t.Fatalf("seed %d, turn %d, life %d: memory differs", seed, turn, n)
					}
				}
				noted := bare.p.Written()
				for n, l := range lives {
					if is := l.p.Written(); !slices.Equal(is, noted) {
						t.Fatalf("seed %d, turn %d, life %d: %#x was written; want %#x", seed, turn, n, is, noted)
					}
				}
			}
		}
	}
	for _, vec := range []int{-1, 12, 13, 14} {
		if told[vec] < 200 {
			t.Errorf("vector %d was told %d times: too seldom to say much (%v)", vec, told[vec], told)
		}
	}
}

// P16.6: what is stored is loaded by whichever Mem, at whichever page of the frame.
func TestStoredIsLoaded(t *testing.T) {
	for _, places := range []int{0, 1, 2, 64} {
		r := newPaged(t)
		r.m = newMem(t, r.p, places)
		other := newMem(t, r.p, places)
		r.page(0x5000, 0xC007)
		r.page(0x6000, 0x7007)
		r.page(0x8000, 0xC007)
		r.page(0x9000, 0x7007)
		for _, size := range sizes {
			for at := uint32(0x5FF8); at < 0x6008; at++ {
				v := 0x9E3779B9 * at
				r.does(call{name: "Store", seg: api.Ds, at: at, size: size, v: v}, answer{f: none})
				want := answer{v: cut(v, size), f: none}
				r.does(asks("Load", at, size), want)
				r.does(asks("Load", at+0x3000, size), want)
				if is := asks("Load", at, size).of(other, &r.c); is != want {
					t.Errorf("another Mem at %#x: %+v; want %+v", at, is, want)
				}
				r.does(asks("Code", at, 1), answer{v: v % 256, at: r.placeOf(at), f: none})
			}
		}
	}
}

// placeOf is where a byte of pages 0x5000 and 0x6000 lies there.
func (r *rig) placeOf(at uint32) uint32 {
	if at < 0x6000 {
		return at + 0x7000
	}
	return at + 0x1000
}

// Two processors over one Mem, each with its own tables, ring and WP: what one found says nothing of the other.
func TestTwoProcessors(t *testing.T) {
	for _, places := range []int{0, 1, 64} {
		r := newPaged(t)
		r.m = newMem(t, r.p, places)
		r.page(0x5000, 0x6005)
		r.lay(0x8000, 0x9007)
		r.lay(0x9014, 0xA003)
		r.lay(0x6000, 0x66666666)
		r.lay(0xA000, 0xAAAAAAAA)
		user, other := r.c, r.c
		user.Seg[api.Cs].Sel = 0x1B
		other.Cr3 = 0x8000
		for range 3 {
			for _, x := range []struct {
				c    *api.Cpu
				x    call
				want answer
			}{
				{&user, asks("Load", 0x5000, 4), answer{v: 0x66666666, f: none}},
				{&other, asks("Load", 0x5000, 4), answer{v: 0xAAAAAAAA, f: none}},
				{&r.c, asks("Check", 0x5000, 4), answer{f: none}},
				{&user, asks("Check", 0x5000, 4), answer{f: pageFault(7, 0x5000)}},
				{&other, asks("Check", 0x5000, 4), answer{f: none}},
			} {
				if is := x.x.of(r.m, x.c); is != x.want {
					t.Errorf("%d places: %+v: %+v; want %+v", places, x.x, is, x.want)
				}
			}
		}
		user.Cr3 = 0x8000
		if is := asks("Load", 0x5000, 4).of(r.m, &user); is != (answer{f: pageFault(5, 0x5000)}) {
			t.Errorf("%d places: a page of ring 0 by a user: %+v", places, is)
		}
	}
}

// Two Mems over one memory: what one writes into the tables the other one sees, though it keeps the page.
func TestTwoMems(t *testing.T) {
	for _, places := range []int{0, 1, 64} {
		r := newPaged(t)
		r.m = newMem(t, r.p, places)
		other := newMem(t, r.p, places)
		r.page(0x5000, 0x6007)
		r.page(0x2000, lowest|7)
		r.lay(0x6000, 0x66666666)
		r.lay(0x7000, 0x77777777)
		for range 3 {
			r.does(asks("Load", 0x5000, 4), answer{v: 0x66666666, f: none})
			if f := other.Store(&r.c, api.Ds, second(0x5000), 4, 0x7007); f != none {
				t.Fatalf("%d places: Store: %+v", places, f)
			}
			r.does(asks("Load", 0x5000, 4), answer{v: 0x77777777, f: none})
			r.does(asks("Store", 0x5000, 4), answer{f: none})
			r.is(second(0x5000), 0x7067)
			if v, f := other.Load(&r.c, api.Ds, 0x5000, 4); v != 0xD4C3B2A1 || f != none {
				t.Errorf("%d places: the other Mem loads %#x, %+v", places, v, f)
			}
			r.lay(0x7000, 0x77777777)
			if f := other.SetSys(&r.c, second(0x5000), 4, 0x6007); f != none {
				t.Fatalf("%d places: SetSys: %+v", places, f)
			}
		}
	}
}

// A call that ends without a fault needs nothing of the heap: there will be many of them.
func TestNoHeap(t *testing.T) {
	r := twoPages(t)
	if n := testing.AllocsPerRun(100, func() {
		r.m.Load(&r.c, api.Ds, 0x5FFE, 4)
		r.m.Store(&r.c, api.Ds, 0x5FFE, 4, 1)
		r.m.Check(&r.c, api.Ds, 0x5100, 4)
		r.m.Sys(&r.c, 0x5100, 4)
		r.m.SetSys(&r.c, 0x5100, 4, 1)
		r.m.Code(&r.c, 0x5100)
	}); n != 0 {
		t.Errorf("%v times something of the heap", n)
	}
}
