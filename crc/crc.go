// Package crc is layer 1: see shared/doc/01-crc.md.
package crc

const (
	turn   = 0xedb88320
	digits = "0123456789abcdef"
)

// Of is the check of bytes.
func Of(b string) uint32 { return More(0, b) }

// More is the check of bytes behind others.
func More(c uint32, b string) uint32 {
	t := table()
	c = ^c
	for i := range len(b) {
		c ^= uint32(b[i])
		c = t[c&15] ^ c>>4
		c = t[c&15] ^ c>>4
	}
	return ^c
}

// Step is a check behind one byte.
func Step(c uint32, b byte) uint32 { return halve(c^uint32(b), 8) }

// Text is a check as digits.
func Text(c uint32) string {
	var t [8]byte
	for i := range t {
		t[i] = digits[c>>28]
		c <<= 4
	}
	return string(t[:])
}

// Number is the check that digits are.
func Number(s string) (uint32, bool) {
	// A digit is one byte, so eight bytes that are all digits are eight digits.
	if len(s) != 8 {
		return 0, false
	}
	var c uint32
	for _, r := range s {
		d, ok := digit(r)
		if !ok {
			return 0, false
		}
		c = c<<4 | d
	}
	return c, true
}

// table holds what four halvings make of each four bits. What lies above the
// four only moves down meanwhile, so a byte takes two lookups; a table of whole
// bytes would cost a short text more than it saves.
func table() [16]uint32 {
	var t [16]uint32
	for i := range t {
		t[i] = halve(uint32(i), 4)
	}
	return t
}

// halve is c halved so many times, and turned whenever a bit falls out.
func halve(c uint32, times int) uint32 {
	for range times {
		if c&1 == 0 {
			c >>= 1
		} else {
			c = c>>1 ^ turn
		}
	}
	return c
}

// digit is the number that a rune stands for, if it is a digit.
func digit(r rune) (uint32, bool) {
	for i, d := range digits {
		if d == r {
			return uint32(i), true
		}
	}
	return 0, false
}
