// Package field: the numbers below p = 2^255 - 19, with + and * modulo p.
package field

import (
	"math/bits"

	"latch/number"
)

// Element is a number of the field, in four words, the least one first. It is
// below p at all times, so that == tells whether two are the same number.
type Element [4]uint64

var (
	modulus = Element{0xffffffffffffffed, 0xffffffffffffffff, 0xffffffffffffffff, 0x7fffffffffffffff}
	// A number whose square is -1.
	rootOfMinusOne = Element{0xc4ee1b274a0ea0b0, 0x2f431806ad2fe478, 0x2b4d00993dfbd7a7, 0x2b8324804fc1df0b}
)

const (
	// What 2^255 and 2^256 are modulo p: bits from there on come back so often.
	of255 = 19
	of256 = 38
	// The last word's bits below 2^255.
	below255 = 1<<63 - 1
)

// OfBytes tells the number that bytes are, the first one the least; false, if
// it is not below p.
func OfBytes(from [number.Size]byte) (Element, bool) {
	n := Element(number.OfBytes(from))
	if _, below := number.Sub(n, modulus); below == 0 {
		return Element{}, false
	}
	return n, true
}

// Bytes tells the number's bytes, the least one first.
func (a Element) Bytes() [number.Size]byte { return number.Bytes(a) }

// IsOdd tells whether the number, as one below p, is odd.
func (a Element) IsOdd() bool { return a[0]&1 == 1 }

// Plus tells a + b.
func (a Element) Plus(b Element) Element {
	sum, _ := number.Add(a, b)
	return reduce(sum[0], sum[1], sum[2], sum[3])
}

// Minus tells a - b. Where 2^256 was borrowed for it, p is what was to be
// added: 2^255 too much, which is cut off, and 19 more.
func (a Element) Minus(b Element) Element {
	difference, borrow := number.Sub(a, b)
	difference, _ = number.Sub(difference, Element{of255 * borrow})
	difference[3] &= below255
	return difference
}

// Times tells a * b. The upper four words of the product come back 38 times;
// what is then above 2^255, at most 77, comes back 19 times.
func (a Element) Times(b Element) Element {
	low0, n0, n1, n2, n3 := addTimes(0, 0, 0, 0, a[0], b)
	low1, n0, n1, n2, n3 := addTimes(n0, n1, n2, n3, a[1], b)
	low2, n0, n1, n2, n3 := addTimes(n0, n1, n2, n3, a[2], b)
	low3, n0, n1, n2, n3 := addTimes(n0, n1, n2, n3, a[3], b)
	low0, low1, low2, low3, high := addTimes(low0, low1, low2, low3, of256, Element{n0, n1, n2, n3})
	over := high<<1 | low3>>63
	low0, carry := bits.Add64(low0, of255*over, 0)
	low1, carry = bits.Add64(low1, 0, carry)
	low2, carry = bits.Add64(low2, 0, carry)
	return reduce(low0, low1, low2, low3&below255+carry)
}

// addTimes tells n + word * b, in five words.
func addTimes(n0, n1, n2, n3, word uint64, b Element) (r0, r1, r2, r3, r4 uint64) {
	r0, r4 = number.MulAdd(word, b[0], n0, 0)
	r1, r4 = number.MulAdd(word, b[1], n1, r4)
	r2, r4 = number.MulAdd(word, b[2], n2, r4)
	r3, r4 = number.MulAdd(word, b[3], n3, r4)
	return r0, r1, r2, r3, r4
}

// Square tells a * a.
func (a Element) Square() Element { return a.Times(a) }

// reduce tells a number below 2 p modulo p. It is p or more, if 19 more of it
// reach 2^255; then those 19 more, without that 2^255, are p less.
func reduce(n0, n1, n2, n3 uint64) Element {
	_, carry := bits.Add64(n0, of255, 0)
	_, carry = bits.Add64(n1, 0, carry)
	_, carry = bits.Add64(n2, 0, carry)
	reached := (n3 + carry) >> 63
	n0, carry = bits.Add64(n0, of255*reached, 0)
	n1, carry = bits.Add64(n1, 0, carry)
	n2, carry = bits.Add64(n2, 0, carry)
	return Element{n0, n1, n2, (n3 + carry) & below255}
}
