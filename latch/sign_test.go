package latch_test

import (
	"crypto/ed25519"
	"strings"
	"sync"
	"testing"
	"unsafe"

	"latch/api"
	"latch/latch"
)

const exampleSeed = "9d61b19deffd5a60ba844af492ec2cc44449c5697b326919703bac031cae7f60"

// Seeds at the ends, and some between.
func someSeeds() []string {
	seeds := []string{noughts, strings.Repeat("\xff", 32), zeroCode(), baseCode()}
	for n := range 8 {
		seeds = append(seeds, mixed(32 + n)[:32])
	}
	return seeds
}

// librarySign signs by the library, which signs as the document asks.
func librarySign(seed, message string) string {
	return string(ed25519.Sign(ed25519.NewKeyFromSeed([]byte(seed)), []byte(message)))
}

func checkKey(t *testing.T, seed, want string) {
	t.Helper()
	if got, code := latch.Key(seed); got != want || code != api.OK {
		t.Errorf("P6: Key(%x) = %x, %d, want %x", seed, got, code, want)
	}
}

func checkSign(t *testing.T, seed, message, want string) {
	t.Helper()
	if got, code := latch.Sign(seed, message); got != want || code != api.OK {
		t.Errorf("P6: Sign(%x, %.40x) of %d bytes = %x, %d, want %x", seed, message, len(message), got, code, want)
	}
}

func TestKeyExample(t *testing.T) {
	checkKey(t, text(t, exampleSeed), text(t, "d75a980182b10ab7d54bfed3c964073a0ee172f3daa62325af021a68f707511a"))
}

func TestKey(t *testing.T) {
	for _, seed := range someSeeds() {
		checkKey(t, seed, wantKey(seed))
	}
	for n := range 200 {
		seed := mixed(40 + n)[:32]
		checkKey(t, seed, string(ed25519.NewKeyFromSeed([]byte(seed))[32:]))
	}
}

// The vectors of RFC 8032, section 7.1.
func TestSignPublished(t *testing.T) {
	for _, c := range []struct{ seed, message, want string }{
		{exampleSeed, "", "e5564300c360ac729086e2cc806e828a84877f1eb8e5d974d873e065224901555fb8821590a33bacc61e39701cf9b46bd25bf5f0595bbe24655141438e7a100b"},
		{"4ccd089b28ff96da9db6c346ec114e0f5b8a319f35aba624da8cf6ed4fb8a6fb", "72",
			"92a009a9f0d4cab8720e820b5f642540a2b27b5416503f8fb3762223ebdb69da085ac1e43e15996e458f3613d0f11d8c387b2eaeb4302aeeb00d291612bb0c00"},
		{"c5aa8df43f9f837bedb7442f31dcb7b166d38535076f094b85ce3a2e0b4458f7", "af82",
			"6291d657deec24024827e69c3abe01a30ce548a284743a445e3680d7db5ac3ac18ff9b538d16f290ae67f760984dc6594a7c15e9716ed28dc027beceea1ec40a"},
	} {
		checkSign(t, text(t, c.seed), text(t, c.message), text(t, c.want))
	}
}

func TestSign(t *testing.T) {
	for n, seed := range someSeeds() {
		checkSign(t, seed, "", wantSign(seed, ""))
		checkSign(t, seed, mixed(50*n), wantSign(seed, mixed(50*n)))
	}
}

// The hashes of r and of k have 32 and 64 bytes ahead of the message: their
// blocks end at other sizes.
func TestSignAroundBlockEnds(t *testing.T) {
	seed := mixed(32)
	for n := range 2*128 + 2 {
		checkSign(t, seed, mixed(n), librarySign(seed, mixed(n)))
	}
	for _, n := range []int{1 << 10, 1<<16 + 47, 1<<20 + 1} {
		checkSign(t, seed, mixed(n), librarySign(seed, mixed(n)))
	}
}

func TestSignOddTexts(t *testing.T) {
	for _, message := range []string{"\x00", "\x00\x00", "\xff", "é", "\xed\xa0\x80", noughts, strings.Repeat("\xff", 300)} {
		checkSign(t, mixed(32), message, librarySign(mixed(32), message))
	}
}

func TestKeyAndSignRefuse(t *testing.T) {
	for _, size := range []int{0, 1, 31, 33, 63, 64, 65, 1 << 20} {
		for _, seed := range []string{mixed(size), strings.Repeat("\x00", size)} {
			if got, code := latch.Key(seed); got != "" || code != api.ErrSize {
				t.Errorf("P6: Key of %d bytes = %x, %d, want ErrSize", size, got, code)
			}
			for _, message := range []string{"", "m", mixed(32), mixed(1000)} {
				if got, code := latch.Sign(seed, message); got != "" || code != api.ErrSize {
					t.Errorf("P6: Sign by %d bytes = %x, %d, want ErrSize", size, got, code)
				}
			}
		}
	}
}

func TestSignIsTaken(t *testing.T) {
	for n, seed := range someSeeds() {
		for _, message := range []string{"", mixed(n), mixed(200 + n)} {
			key, _ := latch.Key(seed)
			signature, _ := latch.Sign(seed, message)
			if code := latch.Verify(key, message, signature); code != api.OK {
				t.Errorf("P10: Verify of what Sign has made by %x of %x = %d", seed, message, code)
			}
		}
	}
}

// The texts lie over bytes that the test writes over afterwards: an answer that
// shared them would change.
func TestSeedsAndMessagesAreNeitherKeptNorChanged(t *testing.T) {
	under, below := []byte(mixed(32)), []byte(mixed(200))
	seed, message := unsafe.String(&under[0], len(under)), unsafe.String(&below[0], len(below))
	key, _ := latch.Key(seed)
	signature, _ := latch.Sign(seed, message)
	if string(under) != mixed(32) || string(below) != mixed(200) {
		t.Fatal("P2: a text was changed")
	}
	clear(under)
	clear(below)
	if key != wantKey(mixed(32)) || signature != librarySign(mixed(32), mixed(200)) {
		t.Errorf("P2: answers %x and %x have changed with what was handed in", key, signature)
	}
	checkSign(t, mixed(32), mixed(200), signature)
}

func TestSignaturesTheSameAgain(t *testing.T) {
	var group sync.WaitGroup
	for n := range 8 {
		group.Go(func() {
			seed, message := mixed(33 + n)[:32], mixed(70*n)
			want := librarySign(seed, message)
			key := string(ed25519.NewKeyFromSeed([]byte(seed))[32:])
			for range 10 {
				latch.Sign("", message)
				latch.Verify(key, message+"x", want)
				checkKey(t, seed, key)
				checkSign(t, seed, message, want)
				if code := latch.Verify(key, message, want); code != api.OK {
					t.Errorf("P2: Verify hangs on other calls: %d", code)
				}
			}
		})
	}
	group.Wait()
}
