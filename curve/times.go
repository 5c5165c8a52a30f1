package curve

// Powers are a point's multiples by 1, 2^64, 2^128 and 2^192: one for each word
// of a number. With them, a multiple takes a quarter of the doublings.
type Powers [4]Point

// Powers tells the point's powers.
func (p Point) Powers() Powers {
	powers := Powers{p}
	for i := 1; i < len(powers); i++ {
		powers[i] = powers[i-1]
		for range 64 {
			powers[i] = powers[i].Double()
		}
	}
	return powers
}

// Times tells n times the point. It goes through the bits of all four words at
// once, from the highest on.
func (powers Powers) Times(n [4]uint64) Point {
	sums := powers.sums()
	product := zero()
	for at := 63; at >= 0; at-- {
		var chosen uint64
		for i, word := range n {
			chosen |= (word >> at & 1) << i
		}
		product = product.Double().Add(sums[chosen])
	}
	return product
}

// sums tells the sums of all choices among the powers: bit i of an index
// chooses power i.
func (powers Powers) sums() [16]Point {
	var sums [16]Point
	sums[0] = zero()
	for i, power := range powers {
		for j := range 1 << i {
			sums[1<<i+j] = sums[j].Add(power)
		}
	}
	return sums
}
