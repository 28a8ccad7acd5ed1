// Package nat is layer 1: natural numbers of any size, as lists of digits to the base 2^32, the least first.
package nat

import (
	"math/bits"
	"slices"
)

const (
	digitBits = 32
	maxShift  = 100000
)

// short is a without the zeros at its end; it stands on a's own memory, so no exported function hands it out.
func short(a []uint32) []uint32 {
	n := len(a)
	for n > 0 && a[n-1] == 0 {
		n--
	}
	return a[:n]
}

// Trim is the number a, short.
func Trim(a []uint32) []uint32 { return slices.Clone(short(a)) }

// From is n as a number.
func From(n uint64) []uint32 { return short([]uint32{uint32(n), uint32(n >> digitBits)}) }

// Small is a, and true, if it is below 2^64.
func Small(a []uint32) (uint64, bool) {
	a = short(a)
	switch len(a) {
	case 0:
		return 0, true
	case 1:
		return uint64(a[0]), true
	case 2:
		return uint64(a[1])<<digitBits | uint64(a[0]), true
	}
	return 0, false
}

// Cmp is -1, 0 or 1, as a is below b, the same, or above.
func Cmp(a, b []uint32) int {
	a, b = short(a), short(b)
	if len(a) != len(b) {
		return sign(len(a) > len(b))
	}
	for i := len(a) - 1; i >= 0; i-- {
		if a[i] != b[i] {
			return sign(a[i] > b[i])
		}
	}
	return 0
}

func sign(above bool) int {
	if above {
		return 1
	}
	return -1
}

// Add is the sum of a and b.
func Add(a, b []uint32) []uint32 {
	a, b = short(a), short(b)
	if len(a) < len(b) {
		a, b = b, a
	}
	sum := make([]uint32, len(a)+1)
	var carry uint32
	for i := range len(b) {
		sum[i], carry = bits.Add32(a[i], b[i], carry)
	}
	for i := range len(a) - len(b) {
		sum[len(b)+i], carry = bits.Add32(a[len(b)+i], 0, carry)
	}
	sum[len(a)] = carry
	return short(sum)
}

// Sub is a less b, and true; none and false, if b is above a.
func Sub(a, b []uint32) ([]uint32, bool) {
	a, b = short(a), short(b)
	if Cmp(a, b) < 0 {
		return nil, false
	}
	rest := make([]uint32, len(a))
	var borrow uint32
	for i := range len(b) {
		rest[i], borrow = bits.Sub32(a[i], b[i], borrow)
	}
	for i := range len(a) - len(b) {
		rest[len(b)+i], borrow = bits.Sub32(a[len(b)+i], 0, borrow)
	}
	return short(rest), true
}

// Mul is the product of a and b.
func Mul(a, b []uint32) []uint32 {
	a, b = short(a), short(b)
	if len(a) == 0 || len(b) == 0 {
		return nil
	}
	product := make([]uint32, len(a)+len(b))
	for i := range len(a) {
		product[i+len(b)] = addRow(product[i:i+len(b)], b, a[i])
	}
	return short(product)
}

// addRow adds b times d to row, which is as long as b, and answers the carry.
func addRow(row, b []uint32, d uint32) uint32 {
	var carry uint64
	for i := range len(b) {
		carry += uint64(row[i]) + uint64(b[i])*uint64(d)
		row[i] = uint32(carry)
		carry >>= digitBits
	}
	return uint32(carry)
}

// Bits is how many bits a needs.
func Bits(a []uint32) int {
	a = short(a)
	if len(a) == 0 {
		return 0
	}
	return (len(a)-1)*digitBits + bits.Len32(a[len(a)-1])
}

// Bit is whether bit i of a, the least one being 0, is 1.
func Bit(a []uint32, i int) bool {
	if i < 0 || i/digitBits >= len(a) {
		return false
	}
	return a[i/digitBits]>>(i%digitBits)&1 == 1
}

// Shl is a times 2^n, and true; none and false, if n is below 0, or above 100000.
func Shl(a []uint32, n int) ([]uint32, bool) {
	if n < 0 || n > maxShift {
		return nil, false
	}
	a = short(a)
	whole, part := n/digitBits, n%digitBits
	moved := make([]uint32, whole+len(a)+1)
	var carry uint32
	for i := range len(a) {
		// A shift by all 32 bits, as of part 0, leaves 0.
		moved[whole+i] = a[i]<<part | carry
		carry = a[i] >> (digitBits - part)
	}
	moved[whole+len(a)] = carry
	return short(moved), true
}

// Shr is a divided by 2^n, without the rest; of n below 0 it is a.
func Shr(a []uint32, n int) []uint32 {
	a = short(a)
	if n < 0 {
		return slices.Clone(a)
	}
	whole, part := n/digitBits, n%digitBits
	if whole >= len(a) {
		return nil
	}
	a = a[whole:]
	moved := make([]uint32, len(a))
	for i := range len(a) {
		moved[i] = a[i] >> part
		if i+1 < len(a) {
			moved[i] |= a[i+1] << (digitBits - part)
		}
	}
	return short(moved)
}
