package curve

import "sync"

// Powers are a point's multiples by 1, 2^64, 2^128 and 2^192: one for each word
// of a number. With them, a multiple takes a quarter of the doublings.
type Powers [4]Point

// The code of B: y is 4 / 5, x is even.
var baseCode = Code{
	0x58, 0x66, 0x66, 0x66, 0x66, 0x66, 0x66, 0x66, 0x66, 0x66, 0x66, 0x66, 0x66, 0x66, 0x66, 0x66,
	0x66, 0x66, 0x66, 0x66, 0x66, 0x66, 0x66, 0x66, 0x66, 0x66, 0x66, 0x66, 0x66, 0x66, 0x66, 0x66,
}

// What is worked out of B, when it is first asked for: many calls ask for it,
// and it is the same at all of them.
var ofBase struct {
	once   sync.Once
	powers Powers
}

// Base tells the powers of B.
func Base() Powers {
	ofBase.once.Do(func() {
		base, _ := Decode(baseCode)
		ofBase.powers = base.Powers()
	})
	return ofBase.powers
}

// PowersOf tells the powers of a code's point; false, if it is no point's code.
func PowersOf(code Code) (Powers, bool) {
	if code == baseCode {
		return Base(), true
	}
	p, ok := Decode(code)
	if !ok {
		return Powers{}, false
	}
	return p.Powers(), true
}

// Powers tells the point's powers.
func (p Point) Powers() Powers {
	powers := Powers{p}
	for i := 1; i < len(powers); i++ {
		powers[i] = powers[i-1]
		for range 64 {
			powers[i] = powers[i].Double()
		}
	}
	return powers
}

// Times tells n times the point. It goes through the bits of all four words at
// once, from the highest on.
func (powers Powers) Times(n [4]uint64) Point {
	sums := powers.sums()
	product := zero()
	for at := 63; at >= 0; at-- {
		var chosen uint64
		for i, word := range n {
			chosen |= (word >> at & 1) << i
		}
		product = product.Double().Add(sums[chosen])
	}
	return product
}

// sums tells the sums of all choices among the powers: bit i of an index
// chooses power i.
func (powers Powers) sums() [16]Point {
	var sums [16]Point
	sums[0] = zero()
	for i, power := range powers {
		for j := range 1 << i {
			sums[1<<i+j] = sums[j].Add(power)
		}
	}
	return sums
}
