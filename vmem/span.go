package vmem

import (
	"drawloom/api"
	"drawloom/segment"
)

// outermost is the ring of users.
const outermost = 3

// span is where the bytes of a value lie: so many as are ahead at first, the rest, which lie in the next page, at second.
type span struct {
	first, second uint32
	ahead, size   int
}

// inSegment is where a value of a segment lies.
func (m *Mem) inSegment(c *api.Cpu, seg int, off uint32, size int, write bool) span {
	m.need(c)
	if !isSize(size) || seg < 0 || seg >= len(c.Seg) {
		panic(refused(api.GP))
	}
	is := c.Seg[seg]
	if is.Null || !segment.Reach(is.D, off, size, write) {
		panic(refused(vectorOf(seg)))
	}
	return m.find(c, is.D.Base+off, size, programWay(c, write))
}

// ofProcessor is where a value lies that the processor itself asks for.
func (m *Mem) ofProcessor(c *api.Cpu, lin uint32, size int, write bool) span {
	m.need(c)
	if !isSize(size) {
		panic(refused(api.GP))
	}
	return m.find(c, lin, size, ownWay(c, write))
}

// ofCode is where a byte of code lies. CS was looked at when it was loaded: only where it ends is asked here.
func (m *Mem) ofCode(c *api.Cpu, off uint32) span {
	m.need(c)
	is := c.Seg[api.Cs].D
	if off > is.Limit {
		panic(refused(api.GP))
	}
	return m.find(c, is.Base+off, 1, programWay(c, false))
}

// need ends a call that has no memory or no processor.
func (m *Mem) need(c *api.Cpu) {
	if m.Ram() == nil || c == nil {
		panic(refused(api.GP))
	}
}

// find asks for all pages of a value, so that a fault of the second one comes ahead of any byte that is read or written.
func (m *Mem) find(c *api.Cpu, lin uint32, size int, w api.Way) span {
	if c.Cr0&api.PG == 0 {
		return span{first: lin, ahead: size, size: size}
	}
	s := span{ahead: min(size, api.PageSize-int(lin%api.PageSize)), size: size}
	s.first = m.place(c.Cr3, lin, w)
	if s.ahead < size {
		s.second = m.place(c.Cr3, lin+uint32(s.ahead), w)
	}
	return s
}

// place asks for one page. It drops the error: there is a tlb where there is a memory.
func (m *Mem) place(cr3, lin uint32, w api.Way) uint32 {
	walk, code, _ := m.pages.Find(cr3, lin, w)
	if code >= 0 {
		panic(api.Fault{Vec: api.PFV, Code: code, Cr2: lin})
	}
	return walk.Frame | lin%api.PageSize
}

// read reads a value. Here and in write the errors are left: there is a memory, and the size is one.
func (m *Mem) read(s span) uint32 {
	if s.ahead == s.size {
		v, _ := m.memory.Read(s.first, s.size)
		return v
	}
	v := uint32(0)
	for n := range s.size {
		one, _ := m.memory.Read(s.at(n), 1)
		v |= one << (8 * n)
	}
	return v
}

func (m *Mem) write(s span, v uint32) {
	if s.ahead == s.size {
		_ = m.memory.Write(s.first, s.size, v)
		return
	}
	for n := range s.size {
		_ = m.memory.Write(s.at(n), 1, v>>(8*n))
	}
}

// at is the place of the n-th byte.
func (s span) at(n int) uint32 {
	if n < s.ahead {
		return s.first + uint32(n)
	}
	return s.second + uint32(n-s.ahead)
}

// programWay is how a program asks for pages.
func programWay(c *api.Cpu, write bool) api.Way {
	w := ownWay(c, write)
	w.User = c.Seg[api.Cs].Sel&3 == outermost
	return w
}

// ownWay is how the processor itself asks: as the supervisor, whatever its ring.
func ownWay(c *api.Cpu, write bool) api.Way {
	return api.Way{Write: write, Wp: c.Cr0&api.WP != 0}
}

// vectorOf is the vector of what a segment does not let.
func vectorOf(seg int) int {
	if seg == api.Ss {
		return api.SSV
	}
	return api.GP
}

func isSize(size int) bool { return size == 1 || size == 2 || size == 4 }
