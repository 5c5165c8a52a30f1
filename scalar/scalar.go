// Package scalar: numbers modulo L, the order of B.
package scalar

import "latch/number"

// WideSize is the number of bytes of a number that is to be reduced.
const WideSize = 2 * number.Size

// L, which is 2^252 + 27742317777372353535851937790883648493.
var order = [4]uint64{0x5812631a5cf5d3ed, 0x14def9dea2f79cd6, 0, 0x1000000000000000}

// Reduce tells the number that bytes are, the first one the least, modulo L.
func Reduce(wide [WideSize]byte) [4]uint64 {
	var rest [4]uint64
	for at := WideSize - 1; at >= 0; at-- {
		rest = withByte(rest, wide[at])
	}
	return rest
}

// withByte tells 256 n + last modulo L. n is below L. What comes to stand at
// 2^252 and above is taken away as so many times L: where that is too much, it
// is by less than one L.
func withByte(n [4]uint64, last byte) [4]uint64 {
	over := n[3] >> 52
	low, high := number.MulAdd(over, order[0], 0, 0)
	middle, high := number.MulAdd(over, order[1], high, 0)
	rest, borrow := number.Sub([4]uint64{
		n[0]<<8 | uint64(last),
		n[1]<<8 | n[0]>>56,
		n[2]<<8 | n[1]>>56,
		n[3]<<12>>4 | n[2]>>56,
	}, [4]uint64{low, middle, high})
	if borrow == 1 {
		rest, _ = number.Add(rest, order)
	}
	return rest
}

// Is tells whether a number is a scalar, that is, below L.
func Is(n [4]uint64) bool {
	_, borrow := number.Sub(n, order)
	return borrow == 1
}

// TimesPlus tells a b + c modulo L, at any numbers.
func TimesPlus(a, b, c [4]uint64) [4]uint64 {
	low, high := wideTimesPlus(a, b, c)
	lowBytes, highBytes := number.Bytes(low), number.Bytes(high)
	var wide [WideSize]byte
	copy(wide[:], lowBytes[:])
	copy(wide[number.Size:], highBytes[:])
	return Reduce(wide)
}

// wideTimesPlus tells a b + c, which eight words always hold.
func wideTimesPlus(a, b, c [4]uint64) (low, high [4]uint64) {
	high = c
	for i, word := range a {
		var carry uint64
		for j, other := range b {
			high[j], carry = number.MulAdd(word, other, high[j], carry)
		}
		low[i] = high[0]
		high = [4]uint64{high[1], high[2], high[3], carry}
	}
	return low, high
}
