package latch_test

import (
	"math/big"
	"strings"
	"testing"
	"unsafe"

	"latch/api"
	"latch/latch"
)

// signed is a message with a right signature and the key that made it.
type signed struct{ key, message, signature string }

func aSigned(n int) signed {
	seed, message := mixed(32 + n)[:32], mixed(n)
	return signed{wantKey(seed), message, librarySign(seed, message)}
}

func (s signed) r() string { return s.signature[:32] }

func (s signed) s() string { return s.signature[32:] }

func checkVerify(t *testing.T, key, message, signature string, want api.Errno) {
	t.Helper()
	if got := latch.Verify(key, message, signature); got != want {
		t.Errorf("P7: Verify(%.70x, %.40x, %.140x) = %d, want %d", key, message, signature, got, want)
	}
}

// withBit tells a text with one bit turned round.
func withBit(s string, bit int) string {
	b := []byte(s)
	b[bit/8] ^= 1 << (bit % 8)
	return string(b)
}

func TestVerify(t *testing.T) {
	for _, n := range []int{0, 1, 31, 32, 47, 48, 63, 64, 95, 96, 127, 128, 129, 300, 1000, 1<<20 + 1} {
		one := aSigned(n)
		checkVerify(t, one.key, one.message, one.signature, api.OK)
		checkVerify(t, one.key, one.message+"\x00", one.signature, api.ErrSign)
		if n > 0 {
			checkVerify(t, one.key, "", one.signature, api.ErrSign)
			checkVerify(t, one.key, one.message[1:], one.signature, api.ErrSign)
			checkVerify(t, one.key, one.message[:n-1], one.signature, api.ErrSign)
		}
	}
}

func TestVerifyOfAnother(t *testing.T) {
	one, two := aSigned(100), aSigned(101)
	checkVerify(t, two.key, one.message, one.signature, api.ErrSign)
	checkVerify(t, one.key, two.message, one.signature, api.ErrSign)
	checkVerify(t, one.key, one.message, two.signature, api.ErrSign)
	checkVerify(t, one.key, one.message, one.r()+two.s(), api.ErrSign)
	checkVerify(t, one.key, one.message, two.r()+one.s(), api.ErrSign)
	checkVerify(t, one.key, one.message, one.s()+one.r(), wantVerify(one.key, one.message, one.s()+one.r()))
	// The same seed's signature of another message.
	again := librarySign(mixed(132)[:32], "other")
	checkVerify(t, one.key, one.message, again, api.ErrSign)
	checkVerify(t, one.key, "other", again, api.OK)
}

func TestVerifyEveryBit(t *testing.T) {
	one := aSigned(20)
	for bit := range 8 * 32 {
		checkVerify(t, one.key, one.message, withBit(one.r(), bit)+one.s(), api.ErrSign)
		s := withBit(one.s(), bit)
		want := api.ErrSign
		if numberOf(s).Cmp(order()) >= 0 {
			want = api.ErrScalar
		}
		checkVerify(t, one.key, one.message, one.r()+s, want)
		key := withBit(one.key, bit)
		want = api.ErrSign
		if _, ok := pairOf(key); !ok {
			want = api.ErrPoint
		}
		checkVerify(t, key, one.message, one.signature, want)
	}
	for bit := range 8 * len(one.message) {
		checkVerify(t, one.key, withBit(one.message, bit), one.signature, api.ErrSign)
	}
}

func TestVerifySizes(t *testing.T) {
	one := aSigned(40)
	sizes := []int{0, 1, 31, 32, 33, 63, 64, 65, 96, 128, 1 << 16}
	for _, keySize := range sizes {
		for _, signSize := range sizes {
			if keySize == 32 && signSize == 64 {
				continue
			}
			for _, fill := range []string{"\x00", "\x01", "\xff"} {
				checkVerify(t, strings.Repeat(fill, keySize), "m", strings.Repeat(fill, signSize), api.ErrSize)
			}
		}
	}
	for _, key := range []string{"", one.key[:31], one.key + "\x00", one.key + one.key} {
		checkVerify(t, key, one.message, one.signature, api.ErrSize)
	}
	for _, signature := range []string{"", one.r(), one.signature[:63], one.signature + "\x00", one.signature + one.signature} {
		checkVerify(t, one.key, one.message, signature, api.ErrSize)
	}
}

func TestVerifyNoPoint(t *testing.T) {
	one := aSigned(50)
	seen := 0
	for _, key := range noCodes(t) {
		if len(key) == 32 {
			seen++
			checkVerify(t, key, one.message, one.signature, api.ErrPoint)
			checkVerify(t, key, "", zeroCode()+noughts, api.ErrPoint)
		}
	}
	if seen < 60 {
		t.Errorf("%d samples", seen)
	}
}

// tooGreat are numbers that are no scalars.
func tooGreat() []*big.Int {
	return []*big.Int{order(), plus(order(), whole(1)), plus(order(), order()), power2(253), power2(254), power2(255), plus(power2(256), whole(-1))}
}

func TestVerifyScalars(t *testing.T) {
	one := aSigned(60)
	for _, s := range tooGreat() {
		checkVerify(t, one.key, one.message, one.r()+little(s, 32), api.ErrScalar)
		checkVerify(t, zeroCode(), "any", zeroCode()+little(s, 32), api.ErrScalar)
		// It would be right, were it not for its size.
		checkVerify(t, zeroCode(), "any", basePair().times(s).code()+little(s, 32), api.ErrScalar)
	}
	// The same number modulo L.
	for n := range int64(15) {
		more := plus(numberOf(one.s()), new(big.Int).Mul(order(), whole(n+1)))
		checkVerify(t, one.key, one.message, one.r()+little(more, 32), api.ErrScalar)
	}
	for _, s := range []*big.Int{whole(0), whole(1), power2(252), plus(order(), whole(-2)), plus(order(), whole(-1))} {
		checkVerify(t, one.key, one.message, one.r()+little(s, 32), api.ErrSign)
		checkVerify(t, zeroCode(), "any", basePair().times(s).code()+little(s, 32), api.OK)
	}
}

// It is the code that is compared: what is no point's code is not right, even
// where it is y of a right point, and p or 128 more.
func TestVerifyRIsNoPoint(t *testing.T) {
	one := aSigned(70)
	for _, r := range noCodes(t) {
		if len(r) == 32 {
			checkVerify(t, one.key, one.message, r+one.s(), api.ErrSign)
			checkVerify(t, zeroCode(), "any", r+noughts, api.ErrSign)
		}
	}
	minusOne := little(plus(prime(), whole(-1)), 32)
	for n := range 20 { // half of them would have (0, -1) as the sum
		checkVerify(t, minusOne, mixed(n), withBit(minusOne, 255)+noughts, api.ErrSign)
		checkVerify(t, minusOne, mixed(n), withBit(zeroCode(), 255)+noughts, api.ErrSign)
		checkVerify(t, minusOne, mixed(n), little(plus(prime(), whole(1)), 32)+noughts, api.ErrSign)
	}
}

// Of the eight points of small order, just one is right as R where S is 0.
func TestVerifySmallOrder(t *testing.T) {
	codes := smallCodes(t)
	for at, key := range codes {
		taken := map[string]int{}
		for n := range 4 {
			message := mixed(10*at + n)
			for _, r := range codes {
				want := wantVerify(key, message, r+noughts)
				checkVerify(t, key, message, r+noughts, want)
				if want == api.OK {
					taken[r]++
				}
			}
		}
		if at == 0 && len(taken) != 1 || at%2 == 1 && len(taken) < 2 {
			t.Errorf("the samples at key %x have %d right ones", key, len(taken))
		}
	}
}

// A key and an R may have a part of small order: eight times S B - k A would be
// eight times R, but that is not what the document asks.
func TestVerifyMixedOrder(t *testing.T) {
	a, r := numberOf(mixed(31)), numberOf(mixed(30))
	right := 0
	for at, small := range smallCodes(t) {
		part, _ := pairOf(small)
		key := basePair().times(a).add(part).code()
		for n := range int64(8) {
			code := basePair().times(r).add(part.times(whole(n))).code()
			message := mixed(at) + small
			signature := signedBy(a, key, r, code, message)
			want := wantVerify(key, message, signature)
			checkVerify(t, key, message, signature, want)
			if want == api.OK && at > 0 {
				right++
			}
		}
	}
	if right < 3 || right > 50 {
		t.Errorf("%d of the samples are right", right)
	}
}

// B itself as a key, twice B and the opposite of B.
func TestVerifyKeysBesideB(t *testing.T) {
	for _, a := range []*big.Int{whole(1), whole(2), plus(order(), whole(-1))} {
		key, r := basePair().times(a).code(), numberOf(mixed(29))
		signature := signedBy(a, key, r, basePair().times(r).code(), "known")
		checkVerify(t, key, "known", signature, api.OK)
		checkVerify(t, key, "Known", signature, api.ErrSign)
	}
}

// Where several errors apply, the one named first is answered.
func TestVerifySeveralErrors(t *testing.T) {
	one := aSigned(80)
	none, great := little(prime(), 32), little(order(), 32)
	for _, c := range []struct {
		key, signature string
		want           api.Errno
	}{
		{none[:31], one.r() + great, api.ErrSize},
		{none + "\x00", one.r() + great, api.ErrSize},
		{none, (one.r() + great)[:63], api.ErrSize},
		{none, none + great + "\x00", api.ErrSize},
		{"", "", api.ErrSize},
		{none, "", api.ErrSize},
		{none, one.r() + great, api.ErrPoint},
		{none, none + great, api.ErrPoint},
		{none, none + one.s(), api.ErrPoint},
		{one.key, none + great, api.ErrScalar},
		{one.key, zeroCode() + great, api.ErrScalar},
		{one.key, none + one.s(), api.ErrSign},
	} {
		checkVerify(t, c.key, one.message, c.signature, c.want)
		checkVerify(t, c.key, "", c.signature, c.want)
	}
}

func TestVerifyNeitherKeepsNorChanges(t *testing.T) {
	one := aSigned(90)
	all := []byte(one.key + one.signature + one.message)
	whole := unsafe.String(&all[0], len(all))
	if code := latch.Verify(whole[:32], whole[96:], whole[32:96]); code != api.OK {
		t.Errorf("P7: Verify = %d", code)
	}
	if string(all) != one.key+one.signature+one.message {
		t.Fatal("P2: a text was changed")
	}
	clear(all)
	checkVerify(t, one.key, one.message, one.signature, api.OK)
	checkVerify(t, one.key, whole[96:], one.signature, api.ErrSign)
}
