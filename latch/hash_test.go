package latch_test

import (
	"crypto/sha512"
	"encoding/hex"
	"strings"
	"sync"
	"testing"
	"unsafe"

	"latch/latch"
)

func wanted(s string) string {
	sum := sha512.Sum512([]byte(s))
	return string(sum[:])
}

// mixed makes a text of n bytes in which all values of a byte come up.
func mixed(n int) string {
	b := make([]byte, n)
	x := uint32(n) + 1
	for i := range b {
		x = x*1664525 + 1013904223
		b[i] = byte(x >> 24)
	}
	return string(b)
}

func checkSum(t *testing.T, h *latch.Hasher, has string) {
	t.Helper()
	if got := h.Sum(); got != wanted(has) {
		t.Fatalf("P3: Sum behind %d bytes = %x, want %x", len(has), got, wanted(has))
	}
}

func TestHashExample(t *testing.T) {
	want := "ddaf35a193617abacc417349ae20413112e6fa4e89a97ea20a9eeee64b55d39a" +
		"2192992a274fc1a836ba3c23a3feebbd454d4423643ce80e2a9ac94fa54ca49f"
	if got := hex.EncodeToString([]byte(latch.Hash("abc"))); got != want {
		t.Errorf("P3: Hash(abc) = %s, want %s", got, want)
	}
}

func TestHashOfOddTexts(t *testing.T) {
	for _, s := range []string{"", "\x00", "\xff", "\x80", "\x00\x00", "é", "\xc3", "\xed\xa0\x80", strings.Repeat("\x00", 128), strings.Repeat("\xff", 111)} {
		if got := latch.Hash(s); got != wanted(s) {
			t.Errorf("P3: Hash(%q) = %x, want %x", s, got, wanted(s))
		}
	}
}

func TestHashAroundBlockEnds(t *testing.T) {
	for n := range 5*128 + 2 {
		s := mixed(n)
		if got := latch.Hash(s); got != wanted(s) {
			t.Errorf("P3: Hash of %d bytes = %x, want %x", n, got, wanted(s))
		}
	}
}

func TestHashOfManyBlocks(t *testing.T) {
	for _, n := range []int{1<<16 - 1, 1 << 16, 1<<16 + 111, 1<<16 + 112, 1<<23 + 5} {
		s := mixed(n)
		if got := latch.Hash(s); got != wanted(s) {
			t.Errorf("P3: Hash of %d bytes = %x, want %x", n, got, wanted(s))
		}
	}
}

func TestNewHasherIsEmpty(t *testing.T) {
	h := latch.NewHasher()
	checkSum(t, h, "")
	checkSum(t, h, "")
	h.Write("")
	checkSum(t, h, "")
}

func TestWriteInTwo(t *testing.T) {
	s := mixed(270)
	for from := range len(s) + 1 {
		h := latch.NewHasher()
		h.Write(s[:from])
		h.Write("")
		h.Write(s[from:])
		checkSum(t, h, s)
	}
}

func TestWriteByteByByte(t *testing.T) {
	s := mixed(400)
	h := latch.NewHasher()
	for at := range len(s) {
		h.Write(s[at : at+1])
		checkSum(t, h, s[:at+1])
		h.Write("")
		checkSum(t, h, s[:at+1])
	}
}

func TestWriteOfManyBlocks(t *testing.T) {
	has := ""
	h := latch.NewHasher()
	for _, n := range []int{1, 127, 128, 0, 1000, 24, 129, 111, 1, 256, 100000} {
		s := mixed(n)
		h.Write(s)
		has += s
		checkSum(t, h, has)
	}
}

func TestSumChangesNothing(t *testing.T) {
	for n := range 260 {
		s := mixed(n)
		h := latch.NewHasher()
		h.Write(s)
		first := h.Sum()
		checkSum(t, h, s)
		h.Write("more")
		checkSum(t, h, s+"more")
		if first != wanted(s) {
			t.Fatalf("P2: an answered sum of %d bytes has changed", n)
		}
	}
}

func TestHashersBesideOneAnother(t *testing.T) {
	a, b := latch.NewHasher(), latch.NewHasher()
	var hasA, hasB string
	for n := range 60 {
		s, u := mixed(3*n), mixed(5*n+1)
		a.Write(s)
		b.Write(u)
		hasA, hasB = hasA+s, hasB+u
		latch.Hash("aside")
		checkSum(t, a, hasA)
		checkSum(t, b, hasB)
	}
	checkSum(t, latch.NewHasher(), "")
}

func TestHashTheSameAgain(t *testing.T) {
	var group sync.WaitGroup
	for n := range 8 {
		group.Go(func() {
			s := mixed(100 * n)
			for range 50 {
				if got := latch.Hash(s); got != wanted(s) {
					t.Errorf("P2: Hash of %d bytes hangs on other calls: %x", len(s), got)
				}
			}
		})
	}
	group.Wait()
}

// The text lies over bytes that the test writes over afterwards: a hasher that
// kept it would tell another hash.
func TestTextIsNeitherKeptNorChanged(t *testing.T) {
	for _, n := range []int{1, 64, 127, 128, 129, 300} {
		under := []byte(mixed(n))
		h := latch.NewHasher()
		h.Write(unsafe.String(&under[0], n))
		latch.Hash(unsafe.String(&under[0], n))
		h.Sum()
		if string(under) != mixed(n) {
			t.Fatalf("P2: a text of %d bytes was changed", n)
		}
		clear(under)
		checkSum(t, h, mixed(n))
	}
}
