package signing

import (
	"crypto/ed25519"
	"crypto/sha512"
	"errors"
	"strings"
	"testing"

	"latch/curve"
	"latch/fault"
)

const seed = "a seed of just thirty-two bytes."

func libraryKey() ed25519.PrivateKey { return ed25519.NewKeyFromSeed([]byte(seed)) }

func secret(t *testing.T) Secret {
	t.Helper()
	s, err := SecretOf(new(curve.Base), seed)
	if err != nil {
		t.Fatal(err)
	}
	return s
}

// Bits that are set and bits that are cleared, at all bits 0 and at all bits 1.
func TestSeedNumber(t *testing.T) {
	var half [32]byte
	if got, want := seedNumber(half), [4]uint64{3: 1 << 62}; got != want {
		t.Errorf("seedNumber of noughts = %x, want %x", got, want)
	}
	for i := range half {
		half[i] = 0xff
	}
	if got, want := seedNumber(half), [4]uint64{1<<64 - 8, 1<<64 - 1, 1<<64 - 1, 1<<63 - 1}; got != want {
		t.Errorf("seedNumber of bits 1 = %x, want %x", got, want)
	}
}

func TestSecret(t *testing.T) {
	s := secret(t)
	sum := sha512.Sum512([]byte(seed))
	if s.prefix != string(sum[32:]) {
		t.Errorf("the prefix is %x, want %x", s.prefix, sum[32:])
	}
	if s.Key() != curve.Code(libraryKey()[32:]) {
		t.Errorf("P6: the key is %x, want %x", s.Key(), libraryKey()[32:])
	}
	// One secret signs many messages, each as if it were the first.
	for _, message := range []string{"one", "two", "", "one"} {
		if got, want := s.Sign(message), ed25519.Sign(libraryKey(), []byte(message)); string(got[:]) != string(want) {
			t.Errorf("P6: the signature of %q is %x, want %x", message, got, want)
		}
	}
}

func TestHashedOfPieces(t *testing.T) {
	if hashed("a", "", "bc") != hashed("abc") || hashed() != hashed("") || hashed("a", "b") == hashed("b", "a") {
		t.Error("H(..) is not that of the texts one behind the other")
	}
}

// One key verifies many signatures, each as if it were the first.
func TestPublic(t *testing.T) {
	public, err := PublicOf(new(curve.Base), secret(t).Key())
	if err != nil {
		t.Fatal(err)
	}
	for _, message := range []string{"one", "two", "", "one"} {
		signature := secret(t).Sign(message)
		if err := public.Verify(message, signature); err != nil {
			t.Errorf("P7: the signature of %q: %v", message, err)
		}
		if err := public.Verify(message+"x", signature); !errors.Is(err, fault.ErrSign) {
			t.Errorf("P7: the signature of another message than %q: %v", message, err)
		}
	}
}

// What is wrong is told with what was looked at, and is found behind it.
func TestFaultsAreWrapped(t *testing.T) {
	key := string(libraryKey()[32:])
	right := string(ed25519.Sign(libraryKey(), []byte("m")))
	for _, c := range []struct {
		key, message, signature string
		want                    error
		looked                  string
	}{
		{key[1:], "m", right, fault.SizeError{Has: 31, Wants: 32}, "the key"},
		{key, "m", right + "x", fault.SizeError{Has: 65, Wants: 64}, "the signature"},
		{strings.Repeat("\xff", 32), "m", right, fault.ErrPoint, "the key"},
		{key, "m", right[:63] + "\x10", fault.ErrScalar, "the signature's S"},
		{key, "n", right, fault.ErrSign, "the signature"},
	} {
		err := Verify(c.key, c.message, c.signature)
		var at fault.At
		if !errors.Is(err, c.want) || !errors.As(err, &at) || at.What != c.looked {
			t.Errorf("Ways: Verify = %v, want %v at %s", err, c.want, c.looked)
		}
	}
	if err := Verify(key, "m", right); err != nil {
		t.Errorf("P7: Verify = %v", err)
	}
	_, err := SecretOf(new(curve.Base), seed+"x")
	var size fault.SizeError
	if !errors.As(err, &size) || size.Has != 33 {
		t.Errorf("Ways: SecretOf of 33 bytes = %v", err)
	}
}

// asksBase tells whether B is asked for: no base is there to answer it.
func asksBase(call func(none *curve.Base)) (asked bool) {
	defer func() { asked = recover() != nil }()
	call(nil)
	return false
}

// B is worked out where it is asked for, and only then: by the base handed in.
func TestBaseIsAskedOnlyWhereNeeded(t *testing.T) {
	key, right := curve.Code(libraryKey()[32:]), [64]byte(ed25519.Sign(libraryKey(), []byte("m")))
	tooGreat := right
	tooGreat[63] = 0xff
	verify := func(base *curve.Base, signature [64]byte) {
		public, _ := PublicOf(base, key)
		public.Verify("m", signature)
	}
	if asksBase(func(none *curve.Base) { PublicOf(none, key) }) || asksBase(func(none *curve.Base) { PublicOf(none, curve.Code{2}) }) {
		t.Error("Ways: a key asks for B")
	}
	if asksBase(func(none *curve.Base) { verify(none, tooGreat) }) {
		t.Error("Ways: an S that is not below L asks for B")
	}
	if asksBase(func(none *curve.Base) { SecretOf(none, "short") }) {
		t.Error("Ways: a seed of another size asks for B")
	}
	if !asksBase(func(none *curve.Base) { verify(none, right) }) || !asksBase(func(none *curve.Base) { SecretOf(none, seed) }) {
		t.Error("Ways: multiples of B are worked out beside the base")
	}
	if !asksBase(func(none *curve.Base) { s := secret(t); s.base = none; s.Sign("m") }) {
		t.Error("Ways: multiples of B are worked out beside the base")
	}
}
