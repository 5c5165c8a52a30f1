package scalar

import (
	"math/big"
	"slices"
	"testing"

	"latch/number"
)

func order10() *big.Int {
	n, _ := new(big.Int).SetString("27742317777372353535851937790883648493", 10)
	return n.Add(n, new(big.Int).Lsh(big.NewInt(1), 252))
}

func checkReduce(t *testing.T, n *big.Int) {
	t.Helper()
	var wide [WideSize]byte
	n.FillBytes(wide[:])
	slices.Reverse(wide[:])
	rest := number.Bytes(Reduce(wide))
	slices.Reverse(rest[:])
	if want := new(big.Int).Mod(n, order10()); new(big.Int).SetBytes(rest[:]).Cmp(want) != 0 {
		t.Errorf("Reduce(%x) = %x, want %x", n, rest, want)
	}
}

// Multiples of L of all sizes, and what is just above and below them.
func TestReduceAroundMultiples(t *testing.T) {
	for shift := range uint(512 - 252) {
		for _, factor := range []int64{1, 3, 7, 255, 65537} {
			n := new(big.Int).Mul(order10(), big.NewInt(factor))
			n.Lsh(n, shift)
			for i := range int64(5) {
				if near := new(big.Int).Add(n, big.NewInt(i-2)); near.BitLen() <= 8*WideSize {
					checkReduce(t, near)
				}
			}
		}
	}
}

func TestReduceAroundPowers(t *testing.T) {
	for shift := range uint(8*WideSize + 1) {
		n := new(big.Int).Lsh(big.NewInt(1), shift)
		checkReduce(t, new(big.Int).Sub(n, big.NewInt(1)))
		if shift < 8*WideSize {
			checkReduce(t, n)
		}
	}
}

func TestReduceMixed(t *testing.T) {
	n := big.NewInt(3)
	end := new(big.Int).Lsh(big.NewInt(1), 8*WideSize)
	for range 2000 {
		n.Mul(n, n).Add(n, big.NewInt(12345)).Mod(n, end)
		checkReduce(t, n)
	}
}

func ofNumber(n [4]uint64) *big.Int {
	b := number.Bytes(n)
	slices.Reverse(b[:])
	return new(big.Int).SetBytes(b[:])
}

func TestIs(t *testing.T) {
	last := order
	last[0]--
	above := order
	above[0]++
	for _, n := range [][4]uint64{{}, {1}, {3: 1 << 60}, {1<<64 - 1, order[1] - 1, 0, order[3]}, {1<<64 - 1, 1<<64 - 1, 1<<64 - 1, order[3] - 1}, last} {
		if !Is(n) {
			t.Errorf("%x is below L", n)
		}
	}
	for _, n := range [][4]uint64{order, above, {0, order[1] + 1, 0, order[3]}, {0, 0, 1, order[3]}, {3: order[3] + 1}, {3: 1 << 63}, {1<<64 - 1, 1<<64 - 1, 1<<64 - 1, 1<<64 - 1}} {
		if Is(n) {
			t.Errorf("%x is not below L", n)
		}
	}
}

func checkTimesPlus(t *testing.T, a, b, c [4]uint64) {
	t.Helper()
	want := new(big.Int).Mul(ofNumber(a), ofNumber(b))
	want.Add(want, ofNumber(c)).Mod(want, order10())
	if got := TimesPlus(a, b, c); ofNumber(got).Cmp(want) != 0 {
		t.Errorf("TimesPlus(%x, %x, %x) = %x, want %x", a, b, c, got, want)
	}
}

// Words of bits 0 and of bits 1 in all places: every carry goes every way.
func TestTimesPlusAtEnds(t *testing.T) {
	var ends [][4]uint64
	for choice := range 16 {
		var n [4]uint64
		for i := range n {
			if choice>>i&1 == 1 {
				n[i] = 1<<64 - 1
			}
		}
		ends = append(ends, n)
	}
	ends = append(ends, [4]uint64{1}, order, [4]uint64{3: 1 << 62})
	for _, a := range ends {
		for _, b := range ends {
			for _, c := range ends {
				checkTimesPlus(t, a, b, c)
			}
		}
	}
}

func TestTimesPlusMixed(t *testing.T) {
	x := uint64(1)
	next := func() [4]uint64 {
		var n [4]uint64
		for i := range n {
			x = x*6364136223846793005 + 1442695040888963407
			n[i] = x ^ x>>29
		}
		return n
	}
	for range 1000 {
		checkTimesPlus(t, next(), next(), next())
	}
}
