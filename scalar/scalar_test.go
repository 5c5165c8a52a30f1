package scalar

import (
	"math/big"
	"slices"
	"testing"
)

func order10() *big.Int {
	n, _ := new(big.Int).SetString("27742317777372353535851937790883648493", 10)
	return n.Add(n, new(big.Int).Lsh(big.NewInt(1), 252))
}

func checkReduce(t *testing.T, n *big.Int) {
	t.Helper()
	var wide [WideSize]byte
	n.FillBytes(wide[:])
	slices.Reverse(wide[:])
	rest := Reduce(wide)
	slices.Reverse(rest[:])
	if want := new(big.Int).Mod(n, order10()); new(big.Int).SetBytes(rest[:]).Cmp(want) != 0 {
		t.Errorf("Reduce(%x) = %x, want %x", n, rest, want)
	}
}

// Multiples of L of all sizes, and what is just above and below them.
func TestReduceAroundMultiples(t *testing.T) {
	for shift := range uint(512 - 252) {
		for _, factor := range []int64{1, 3, 7, 255, 65537} {
			n := new(big.Int).Mul(order10(), big.NewInt(factor))
			n.Lsh(n, shift)
			for i := range int64(5) {
				if near := new(big.Int).Add(n, big.NewInt(i-2)); near.BitLen() <= 8*WideSize {
					checkReduce(t, near)
				}
			}
		}
	}
}

func TestReduceAroundPowers(t *testing.T) {
	for shift := range uint(8*WideSize + 1) {
		n := new(big.Int).Lsh(big.NewInt(1), shift)
		checkReduce(t, new(big.Int).Sub(n, big.NewInt(1)))
		if shift < 8*WideSize {
			checkReduce(t, n)
		}
	}
}

func TestReduceMixed(t *testing.T) {
	n := big.NewInt(3)
	end := new(big.Int).Lsh(big.NewInt(1), 8*WideSize)
	for range 2000 {
		n.Mul(n, n).Add(n, big.NewInt(12345)).Mod(n, end)
		checkReduce(t, n)
	}
}
