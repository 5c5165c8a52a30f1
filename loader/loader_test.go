package loader

import (
	"crypto/ed25519"
	"crypto/sha512"
	"encoding/binary"
	"errors"
	"strings"
	"testing"

	"latch/api"
	"latch/curve"
	"latch/fault"
	"latch/image"
	"latch/signing"
)

func private(name string) ed25519.PrivateKey {
	return ed25519.NewKeyFromSeed([]byte((name + strings.Repeat(" ", 32))[:32]))
}

func keyOf(name string) string { return string(private(name)[32:]) }

func imageOf(signer string, version uint32, slot byte, payload string) string {
	sum := sha512.Sum512([]byte(payload))
	b := binary.LittleEndian.AppendUint32([]byte(api.Magic), version)
	b = binary.LittleEndian.AppendUint32(b, uint32(len(payload)))
	b = append(append(b, slot), make([]byte, 47)...)
	b = append(b, sum[:]...)
	return string(b) + string(ed25519.Sign(private(signer), b)) + payload
}

func newLoader(t *testing.T, keys ...string) *Loader {
	t.Helper()
	l, err := New(keys, 5)
	if err != nil {
		t.Fatal(err)
	}
	return &l
}

func noKey() string { return strings.Repeat("\xff", 32) }

// What is wrong is told with what was looked at, from the image inwards.
func TestFaultsAreWrapped(t *testing.T) {
	l := newLoader(t, keyOf("a"), noKey())
	right := imageOf("a", 5, 0, "payload")
	for _, c := range []struct {
		text, told string
		want       error
	}{
		{right[:191], "the image: the head: it is too short", fault.ImageError{Code: api.ErrShort}},
		{"l" + right[1:], "the image: the magic: it is another one", fault.ImageError{Code: api.ErrMagic}},
		{right[:20] + "x" + right[21:], "the image: the head's rest: it is not all 0", fault.ImageError{Code: api.ErrHead}},
		{right + "x", "the image: the size: it is not that of the payload", fault.ImageError{Code: api.ErrLength}},
		{imageOf("a", 5, 2, ""), "the image: the slot: it has no key", fault.ImageError{Code: api.ErrSlot}},
		{imageOf("a", 4, 0, ""), "the image: the version: it is too old", fault.ImageError{Code: api.ErrOld}},
		{right[:192] + "Payload", "the image: the digest: it is not that of the payload", fault.ImageError{Code: api.ErrDigest}},
		{imageOf("a", 5, 1, ""), "the image: the key: it is no point's code", fault.ErrPoint},
		{right[:191] + "\xff" + right[192:], "the image: the signature's S: it is not below L", fault.ErrScalar},
		{imageOf("b", 5, 0, ""), "the image: the signature: it is not right", fault.ErrSign},
	} {
		got, err := l.Load(c.text)
		if !errors.Is(err, c.want) || err.Error() != c.told {
			t.Errorf("Ways: Load = %v, want %s", err, c.told)
		}
		if got != (image.Image{}) || l.Least() != 5 {
			t.Errorf("P9: with an error the image is %x, the least version %d", got, l.Least())
		}
	}
	for _, keys := range [][]string{{"short"}, {keyOf("a"), keyOf("b") + "x"}, make([]string, 5)} {
		_, err := New(keys, 5)
		if !errors.Is(err, fault.ErrKeys) || err.Error() != "the keys: they are too many, or one is of another size" {
			t.Errorf("Ways: New = %v", err)
		}
	}
}

func TestLoad(t *testing.T) {
	l := newLoader(t, keyOf("a"), keyOf("b"))
	text := imageOf("b", 6, 1, "payload")
	got, err := l.Load(text)
	if want, _ := image.Of(text); err != nil || got != want || l.Least() != 6 {
		t.Errorf("P9: Load = %x, %v, and the least version is %d", got, err, l.Least())
	}
}

func load(t *testing.T, l *Loader, text string, want error) {
	t.Helper()
	if _, err := l.Load(text); !errors.Is(err, want) {
		t.Errorf("P9: Load = %v, want %v", err, want)
	}
}

// A key is worked out when an image first asks for it, and kept by its bytes:
// once, in however many slots it is.
func TestKeysAreWorkedOutOnce(t *testing.T) {
	l := newLoader(t, keyOf("a"), keyOf("b"), keyOf("a"), noKey())
	load(t, l, imageOf("a", 4, 0, ""), fault.ImageError{Code: api.ErrOld})
	load(t, l, imageOf("a", 5, 3, ""), fault.ErrPoint)
	if len(l.publics) != 0 {
		t.Errorf("Ways: %d keys are worked out, though none is asked for", len(l.publics))
	}
	load(t, l, imageOf("a", 5, 0, ""), nil)
	load(t, l, imageOf("a", 5, 2, ""), nil)
	if _, ok := l.publics[curve.Code([]byte(keyOf("a")))]; !ok || len(l.publics) != 1 {
		t.Errorf("Ways: %d keys are kept, want the one that was asked for", len(l.publics))
	}
	load(t, l, imageOf("a", 5, 1, ""), fault.ErrSign)
	if len(l.publics) != 2 {
		t.Errorf("Ways: %d keys are kept, want both that were asked for", len(l.publics))
	}
}

// What is kept of a key is what it is verified by: were it that of another key,
// that one's signatures would be right.
func TestKeptKeysAreUsed(t *testing.T) {
	l := newLoader(t, keyOf("a"))
	other, err := signing.PublicOf(l.base, curve.Code([]byte(keyOf("b"))))
	if err != nil {
		t.Fatal(err)
	}
	l.publics[l.keys[0]] = other
	load(t, l, imageOf("b", 5, 0, ""), nil)
	load(t, l, imageOf("a", 5, 0, ""), fault.ErrSign)
}

// asksBase tells whether an image asks for B: no base is there to answer it.
func asksBase(l *Loader, text string) (asked bool) {
	defer func() { asked = recover() != nil }()
	l.base = nil
	l.Load(text)
	return false
}

func TestBaseIsAskedOnlyForSignatures(t *testing.T) {
	right := imageOf("a", 5, 0, "payload")
	for _, text := range []string{
		right[:191], "l" + right[1:], right[:20] + "x" + right[21:], right + "x", imageOf("a", 5, 2, ""), imageOf("a", 4, 0, ""),
		right[:192] + "Payload", imageOf("a", 5, 1, ""), right[:191] + "\xff" + right[192:],
	} {
		if asksBase(newLoader(t, keyOf("a"), noKey()), text) {
			t.Errorf("Ways: %.200x asks for B", text)
		}
	}
	if !asksBase(newLoader(t, keyOf("a")), right) {
		t.Error("Ways: multiples of B are worked out beside the loader's base")
	}
}
