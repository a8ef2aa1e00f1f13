// Package crc is layer 1: sums of bytes: see shared/doc/01-crc.md.
package crc

// polynomial is that of CRC-32C, its bits turned round, as the register goes from the lowest bit on.
const polynomial = 0x82f63b78

// More: the sum of bytes behind others whose sum that is.
func More(sum uint32, b []byte) uint32 {
	register := ^sum
	for _, c := range b {
		register = feed(register, c)
	}
	return ^register
}

// Sum: of bytes.
func Sum(b []byte) uint32 {
	// The sum of no bytes is 0: with its bits turned it is the register that the rule begins with.
	return More(0, b)
}

// feed: the register behind one more byte.
func feed(register uint32, c byte) uint32 {
	register ^= uint32(c)
	for range 8 {
		if register&1 == 1 {
			register = register>>1 ^ polynomial
		} else {
			register >>= 1
		}
	}
	return register
}
