package number

import (
	"math"
	"math/big"
	"slices"
	"testing"
)

const most = math.MaxUint64

func bigOf(words ...uint64) *big.Int {
	n := new(big.Int)
	for _, word := range slices.Backward(words) {
		n.Lsh(n, 64).Or(n, new(big.Int).SetUint64(word))
	}
	return n
}

func samples() [][4]uint64 {
	numbers := [][4]uint64{
		{}, {1}, {most}, {0, 1}, {most, most}, {0, 0, 1}, {most, most, most}, {0, 0, 0, 1}, {0, 0, 0, 1 << 63},
		{most, most, most, most}, {most - 1, most, most, most}, {0, most, 0, most}, {most, 0, most, 0},
	}
	x := uint64(1)
	for range 20 {
		var n [4]uint64
		for i := range n {
			x = x*6364136223846793005 + 1442695040888963407
			n[i] = x
		}
		numbers = append(numbers, n)
	}
	return numbers
}

func TestBytes(t *testing.T) {
	var from [Size]byte
	for i := range from {
		from[i] = byte(0xf0 + i)
	}
	for range 300 {
		n := OfBytes(from)
		little := slices.Clone(from[:])
		slices.Reverse(little)
		if bigOf(n[:]...).Cmp(new(big.Int).SetBytes(little)) != 0 {
			t.Fatalf("OfBytes(%x) = %x", from, n)
		}
		if Bytes(n) != from {
			t.Fatalf("Bytes(%x) = %x, want %x", n, Bytes(n), from)
		}
		for i := range from {
			from[i] = from[i]*5 + byte(i) + 1
		}
	}
}

func TestAddSub(t *testing.T) {
	for _, a := range samples() {
		for _, b := range samples() {
			sum, carry := Add(a, b)
			if want := new(big.Int).Add(bigOf(a[:]...), bigOf(b[:]...)); bigOf(append(sum[:], carry)...).Cmp(want) != 0 {
				t.Errorf("%x + %x = %x, %d", a, b, sum, carry)
			}
			if back, borrow := Sub(sum, b); back != a || borrow != carry {
				t.Errorf("%x - %x = %x, %d, want %x, %d", sum, b, back, borrow, a, carry)
			}
			if _, borrow := Sub(a, b); (borrow == 1) != (bigOf(a[:]...).Cmp(bigOf(b[:]...)) < 0) || borrow > 1 {
				t.Errorf("%x - %x borrows %d", a, b, borrow)
			}
		}
	}
}

func TestMulAdd(t *testing.T) {
	words := []uint64{0, 1, 2, 38, 1 << 32, 1<<32 - 1, 1 << 63, most - 1, most, 0x123456789abcdef0}
	for _, a := range words {
		for _, b := range words {
			for _, c := range words {
				for _, d := range words {
					low, high := MulAdd(a, b, c, d)
					want := new(big.Int).Mul(bigOf(a), bigOf(b))
					want.Add(want, bigOf(c)).Add(want, bigOf(d))
					if bigOf(low, high).Cmp(want) != 0 {
						t.Fatalf("%x * %x + %x + %x = %x, %x", a, b, c, d, high, low)
					}
				}
			}
		}
	}
}
