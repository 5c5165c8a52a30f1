package field

import (
	"math/big"
	"slices"
	"testing"

	"latch/number"
)

func p() *big.Int {
	n := new(big.Int).Lsh(big.NewInt(1), 255)
	return n.Sub(n, big.NewInt(19))
}

func bytesOf(n *big.Int) [number.Size]byte {
	var b [number.Size]byte
	n.FillBytes(b[:])
	slices.Reverse(b[:])
	return b
}

func bigOf(a Element) *big.Int {
	b := a.Bytes()
	slices.Reverse(b[:])
	return new(big.Int).SetBytes(b[:])
}

// element tells a number modulo p.
func element(t *testing.T, n *big.Int) Element {
	t.Helper()
	a, ok := OfBytes(bytesOf(new(big.Int).Mod(n, p())))
	if !ok {
		t.Fatalf("%x is refused", n)
	}
	return a
}

// samples are numbers at the ends of the field and at the ends of words, and
// some between.
func samples(t *testing.T) []Element {
	var all []Element
	for i := range int64(41) {
		all = append(all, element(t, big.NewInt(i-20)))
	}
	for bit := range uint(255) {
		if bit%32 < 2 || bit%32 > 29 {
			n := new(big.Int).Lsh(big.NewInt(1), bit)
			all = append(all, element(t, n), element(t, n.Neg(n)))
		}
	}
	x := big.NewInt(3)
	for range 40 {
		x.Mul(x, x).Add(x, big.NewInt(7)).Mod(x, p())
		all = append(all, element(t, x))
	}
	return all
}

func check(t *testing.T, what string, got Element, want *big.Int, of ...Element) {
	t.Helper()
	if got != element(t, want) {
		t.Errorf("%s of %x = %x, want %x", what, of, got, element(t, want))
	}
}

func TestOfBytes(t *testing.T) {
	for i := range int64(60) {
		n := new(big.Int).Add(p(), big.NewInt(i-30))
		got, ok := OfBytes(bytesOf(n))
		if ok != (i < 30) || ok && bigOf(got).Cmp(n) != 0 || !ok && got != (Element{}) {
			t.Errorf("OfBytes(%x) = %x, %v", n, got, ok)
		}
	}
	greatest := new(big.Int).Lsh(big.NewInt(1), 256)
	if _, ok := OfBytes(bytesOf(greatest.Sub(greatest, big.NewInt(1)))); ok {
		t.Error("the greatest number of 32 bytes is taken")
	}
}

func TestTwoNumbers(t *testing.T) {
	all := samples(t)
	for _, a := range all {
		for _, b := range all {
			x, y := bigOf(a), bigOf(b)
			check(t, "sum", a.Plus(b), new(big.Int).Add(x, y), a, b)
			check(t, "difference", a.Minus(b), new(big.Int).Sub(x, y), a, b)
			check(t, "product", a.Times(b), new(big.Int).Mul(x, y), a, b)
		}
	}
}

func TestOneNumber(t *testing.T) {
	for _, a := range samples(t) {
		x := bigOf(a)
		check(t, "square", a.Square(), new(big.Int).Mul(x, x), a)
		check(t, "inverse", a.Inverse(), new(big.Int).Exp(x, new(big.Int).Sub(p(), big.NewInt(2)), p()), a)
		if a.IsOdd() != (x.Bit(0) == 1) {
			t.Errorf("IsOdd of %x = %v", a, a.IsOdd())
		}
	}
}

func TestRootOfRatio(t *testing.T) {
	all := samples(t)
	roots := 0
	for i, u := range all {
		v := all[(7*i+3)%len(all)]
		if v == (Element{}) {
			continue
		}
		ratio := u.Times(v.Inverse())
		root, ok := RootOfRatio(u, v)
		if want := big.Jacobi(bigOf(ratio), p()) >= 0; ok != want {
			t.Errorf("RootOfRatio(%x, %x): %v, want %v", u, v, ok, want)
		}
		if ok && root.Square() != ratio || !ok && root != (Element{}) {
			t.Errorf("RootOfRatio(%x, %x) = %x", u, v, root)
		}
		if ok {
			roots++
		}
	}
	if roots < 20 || roots > len(all)-20 {
		t.Errorf("%d roots of %d: the samples do not tell both kinds", roots, len(all))
	}
}

func TestConstants(t *testing.T) {
	if bigOf(modulus).Cmp(p()) != 0 {
		t.Errorf("p is %x", modulus)
	}
	check(t, "square of the root of -1", rootOfMinusOne.Square(), big.NewInt(-1))
}
