// Package alu is layer 1: sums and logic, and their flags: see shared/doc/01-alu.md.
package alu

import (
	"math/bits"

	"drawloom/api"
)

// Do is a sum, or logic: its result, and the flags behind it.
func Do(op, size int, a, b, flags uint32) (uint32, uint32, api.Errno) {
	if !isSize(size) {
		return 0, 0, api.ErrSize
	}
	if op < api.Add || op > api.Not {
		return 0, 0, api.ErrOp
	}
	w := widthOf(size)
	a, b = w.cut(uint64(a)), w.cut(uint64(b))
	if op == api.Not {
		return w.cut(uint64(^a)), flags, api.OK
	}
	result, marks := w.work(op, a, b, flags&api.CF)
	named := namedBy(op)
	flags = w.byResult(result, flags&^named|marks&named)
	if op == api.Cmp || op == api.Test {
		result = a
	}
	return result, flags, api.OK
}

// Flags are the flags of a result: ZF, SF and PF; the others are as they were.
func Flags(size int, result, flags uint32) (uint32, api.Errno) {
	if !isSize(size) {
		return 0, api.ErrSize
	}
	w := widthOf(size)
	return w.byResult(w.cut(uint64(result)), flags), api.OK
}

func isSize(size int) bool {
	return size == 1 || size == 2 || size == 4
}

// width is what a size makes of numbers: its highest bit, and how they are cut to it.
type width struct {
	sign uint32
	cut  func(uint64) uint32
}

func widthOf(size int) width {
	spare := uint(32 - 8*size)
	return width{
		sign: uint32(1) << (31 - spare),
		cut:  func(n uint64) uint32 { return uint32(n) << spare >> spare },
	}
}

// work is what any operation but Not comes to, and CF, OF and AF of that; Cmp and Test, which tell a instead, need it for their flags.
func (w width) work(op int, a, b, carry uint32) (result, marks uint32) {
	switch op {
	case api.Inc:
		b = 1
		fallthrough
	case api.Add:
		carry = 0
		fallthrough
	case api.Adc:
		return w.add(a, b, carry)
	case api.Neg:
		return w.subtract(0, a, 0)
	case api.Dec:
		b = 1
		fallthrough
	case api.Sub, api.Cmp:
		carry = 0
		fallthrough
	case api.Sbb:
		return w.subtract(a, b, carry)
	case api.Or:
		return a | b, 0
	case api.Xor:
		return a ^ b, 0
	}
	return a & b, 0 // And and Test are left.
}

func (w width) add(a, b, carry uint32) (result, marks uint32) {
	// 64 bits hold every sum of two values and a carry, so what did not fit can be seen.
	whole := uint64(a) + uint64(b) + uint64(carry)
	result = w.cut(whole)
	marks = flagIf(whole != uint64(result), api.CF) |
		flagIf(^(a^b)&(a^result)&w.sign != 0, api.OF) |
		flagIf(a&15+b&15+carry > 15, api.AF)
	return result, marks
}

func (w width) subtract(a, b, carry uint32) (result, marks uint32) {
	// b and the carry can come to 2^32, which 32 bits would take for 0.
	less := uint64(b) + uint64(carry)
	result = w.cut(uint64(a) - less)
	marks = flagIf(uint64(a) < less, api.CF) |
		flagIf((a^b)&(a^result)&w.sign != 0, api.OF) |
		flagIf(a&15 < b&15+carry, api.AF)
	return result, marks
}

// byResult is flags with ZF, SF and PF by a result that was cut.
func (w width) byResult(result, flags uint32) uint32 {
	even := bits.OnesCount8(uint8(result))%2 == 0
	return flags&^(api.ZF|api.SF|api.PF) |
		flagIf(result == 0, api.ZF) |
		flagIf(result&w.sign != 0, api.SF) |
		flagIf(even, api.PF)
}

// namedBy are those of CF, OF and AF that an operation sets or clears: Inc and Dec leave CF alone.
func namedBy(op int) uint32 {
	if op == api.Inc || op == api.Dec {
		return api.OF | api.AF
	}
	return api.CF | api.OF | api.AF
}

func flagIf(holds bool, flag uint32) uint32 {
	if holds {
		return flag
	}
	return 0
}
