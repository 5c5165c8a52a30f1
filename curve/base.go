package curve

import "sync"

// The code of B: y is 4 / 5, x is even.
var baseCode = Code{
	0x58, 0x66, 0x66, 0x66, 0x66, 0x66, 0x66, 0x66, 0x66, 0x66, 0x66, 0x66, 0x66, 0x66, 0x66, 0x66,
	0x66, 0x66, 0x66, 0x66, 0x66, 0x66, 0x66, 0x66, 0x66, 0x66, 0x66, 0x66, 0x66, 0x66, 0x66, 0x66,
}

// Base is what is worked out of B. Whoever asks for multiples of B more than
// once holds one, and asks it each time; a new one has nothing worked out yet.
type Base struct {
	once   sync.Once
	powers Powers
}

// Powers tells the powers of B.
func (b *Base) Powers() Powers {
	b.once.Do(func() {
		point, _ := Decode(baseCode)
		b.powers = point.Powers()
	})
	return b.powers
}

// Times tells n times B.
func (b *Base) Times(n [4]uint64) Point { return b.Powers().Times(n) }

// PowersOf tells the powers of a code's point, which may be B; false, if it is
// no point's code.
func (b *Base) PowersOf(code Code) (Powers, bool) {
	if code == baseCode {
		return b.Powers(), true
	}
	point, ok := Decode(code)
	if !ok {
		return Powers{}, false
	}
	return point.Powers(), true
}
