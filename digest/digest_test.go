package digest

import (
	"crypto/sha512"
	"encoding/hex"
	"math/big"
	"strings"
	"testing"
)

func TestPublished(t *testing.T) {
	for _, c := range []struct{ text, want string }{
		{"", "cf83e1357eefb8bdf1542850d66d8007d620e4050b5715dc83f4a921d36ce9ce47d0d13c5d85f2b0ff8318d2877eec2f63b931bd47417a81a538327af927da3e"},
		{"abc", "ddaf35a193617abacc417349ae20413112e6fa4e89a97ea20a9eeee64b55d39a2192992a274fc1a836ba3c23a3feebbd454d4423643ce80e2a9ac94fa54ca49f"},
		{"abcdefghbcdefghicdefghijdefghijkefghijklfghijklmghijklmnhijklmnoijklmnopjklmnopqklmnopqrlmnopqrsmnopqrstnopqrstu",
			"8e959b75dae313da8cf4f72814fc143f8f7779c6eb9f7fa17299aeadb6889018501d289e4900f7e4331b99dec4b5433ac7d329eeb6dd26545e96e55b874be909"},
		{strings.Repeat("a", 1000000), "e718483d0ce769644e2e42c7bc15b4638e1f98b13b2044285632a803afa973ebde0ff244877ea60a4cb0432ce577c31beb009c5c2c49aa2e4eadb217ad8cc09b"},
	} {
		got := Of(c.text)
		if hex.EncodeToString(got[:]) != c.want {
			t.Errorf("P3: hash of %d bytes = %x, want %s", len(c.text), got, c.want)
		}
	}
}

func primes(n int) []int64 {
	var found []int64
	for c := int64(2); len(found) < n; c++ {
		if big.NewInt(c).ProbablyPrime(0) {
			found = append(found, c)
		}
	}
	return found
}

// isRoot asks whether word is the first 64 bits behind the point of the n-th
// root of a prime: the root lies between it and the next such number.
func isRoot(word uint64, prime int64, n int64) bool {
	target := new(big.Int).Lsh(big.NewInt(prime), uint(64*n))
	power := func(x *big.Int) *big.Int { return new(big.Int).Exp(x, big.NewInt(n), nil) }
	for whole := int64(0); whole <= prime; whole++ {
		x := new(big.Int).Lsh(big.NewInt(whole), 64)
		x.Add(x, new(big.Int).SetUint64(word))
		next := new(big.Int).Add(x, big.NewInt(1))
		if power(x).Cmp(target) <= 0 && power(next).Cmp(target) > 0 {
			return true
		}
	}
	return false
}

func TestTables(t *testing.T) {
	first := primes(rounds)
	for i, word := range roundWords {
		if !isRoot(word, first[i], 3) {
			t.Errorf("P3: word %x of round %d is not of the cube root of %d", word, i, first[i])
		}
	}
	for i, word := range New().state {
		if !isRoot(word, first[i], 2) {
			t.Errorf("P3: starting word %x at %d is not of the square root of %d", word, i, first[i])
		}
	}
}

// No test can write texts so great, so their sizes are set by hand.
func TestGreatSizes(t *testing.T) {
	for _, c := range []struct{ high, low, wantHigh, wantLow uint64 }{
		{0, 1<<61 - 128, 0, 1<<64 - 1024},
		{0, 1 << 61, 1, 0},
		{0, 1<<64 - 128, 7, 1<<64 - 1024},
		{1, 0, 8, 0},
		{5, 3 << 61, 43, 0},
	} {
		h := New()
		h.high, h.low = c.high, c.low
		h.putEnd()
		high, low := getWord(h.block[sizeAt:]), getWord(h.block[sizeAt+8:])
		if high != c.wantHigh || low != c.wantLow {
			t.Errorf("P3: size in bits of %x %x bytes = %x %x, want %x %x", c.high, c.low, high, low, c.wantHigh, c.wantLow)
		}
	}
}

func TestSizeCarries(t *testing.T) {
	h := New()
	h.low = 1<<64 - 128
	h.Write(strings.Repeat("x", 130))
	if h.high != 1 || h.low != 2 {
		t.Errorf("P3: 130 bytes behind 2^64 - 128 make %x %x, want 1 2", h.high, h.low)
	}
}

func TestCopyGoesItsOwnWay(t *testing.T) {
	a := New()
	a.Write("one")
	b := a
	b.Write("two")
	if a.Sum() != sha512.Sum512([]byte("one")) || b.Sum() != sha512.Sum512([]byte("onetwo")) {
		t.Error("P2: a hasher and its copy meddle with each other")
	}
}

func FuzzPieces(f *testing.F) {
	f.Add("", 0)
	f.Add("abc", 1)
	f.Add(strings.Repeat("z", 300), 128)
	f.Fuzz(func(t *testing.T, s string, at int) {
		at = min(max(at, 0), len(s))
		h := New()
		h.Write(s[:at])
		h.Sum()
		h.Write(s[at:])
		want := sha512.Sum512([]byte(s))
		if got := h.Sum(); got != want {
			t.Errorf("P3: hash of %q cut at %d = %x, want %x", s, at, got, want)
		}
	})
}
