// Package number: numbers of 256 bits, in four words, the least one first.
package number

import "math/bits"

// Size is the number of bytes of a number.
const Size = 32

// OfBytes tells the number that bytes are, the first one the least.
func OfBytes(from [Size]byte) [4]uint64 {
	var n [4]uint64
	for i, b := range from {
		n[i/8] |= uint64(b) << (i % 8 * 8)
	}
	return n
}

// Bytes tells a number's bytes, the least one first.
func Bytes(n [4]uint64) [Size]byte {
	var to [Size]byte
	for i := range to {
		to[i] = byte(n[i/8] >> (i % 8 * 8))
	}
	return to
}

// Add tells a + b modulo 2^256, and whether 1 is carried out of it. The words
// stand one by one, not in a loop, so that each carry is handed straight on:
// what is built on this is no quicker than this.
func Add(a, b [4]uint64) (sum [4]uint64, carry uint64) {
	sum[0], carry = bits.Add64(a[0], b[0], 0)
	sum[1], carry = bits.Add64(a[1], b[1], carry)
	sum[2], carry = bits.Add64(a[2], b[2], carry)
	sum[3], carry = bits.Add64(a[3], b[3], carry)
	return sum, carry
}

// Sub tells a - b modulo 2^256, and whether 1 is borrowed: whether a is below b.
func Sub(a, b [4]uint64) (difference [4]uint64, borrow uint64) {
	difference[0], borrow = bits.Sub64(a[0], b[0], 0)
	difference[1], borrow = bits.Sub64(a[1], b[1], borrow)
	difference[2], borrow = bits.Sub64(a[2], b[2], borrow)
	difference[3], borrow = bits.Sub64(a[3], b[3], borrow)
	return difference, borrow
}

// MulAdd tells a * b + c + d, which two words always hold.
func MulAdd(a, b, c, d uint64) (low, high uint64) {
	high, low = bits.Mul64(a, b)
	low, carry := bits.Add64(low, c, 0)
	high += carry
	low, carry = bits.Add64(low, d, 0)
	return low, high + carry
}
