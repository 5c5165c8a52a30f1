package image

import (
	"crypto/sha512"
	"errors"
	"strings"
	"testing"

	"latch/api"
	"latch/fault"
)

const payload = "payload"

// sample is an image whose parts are told apart by their bytes.
func sample() string {
	sum := sha512.Sum512([]byte(payload))
	return "LATCHIMG" + "\x01\x02\x03\x84" + "\x07\x00\x00\x00" + "\xfe" + strings.Repeat("\x00", 47) + string(sum[:]) + strings.Repeat("sign", 16) + payload
}

func checkWrong(t *testing.T, err error, part string, code api.Errno) {
	t.Helper()
	var at fault.At
	var wrong fault.ImageError
	if !errors.As(err, &at) || at.What != part || !errors.As(err, &wrong) || wrong.Code != code {
		t.Errorf("Ways: the error is %v, want %d at %s", err, code, part)
	}
}

func TestParts(t *testing.T) {
	if digestAt != 64 || signatureAt != 128 || payloadAt != 192 || restAt != 17 {
		t.Errorf("the parts begin at %d, %d, %d, %d", restAt, digestAt, signatureAt, payloadAt)
	}
	got, err := Of(sample())
	if err != nil {
		t.Fatal(err)
	}
	want := Image{
		Version:   0x84030201,
		Slot:      0xfe,
		Payload:   payload,
		Signed:    sample()[:128],
		Signature: [64]byte([]byte(strings.Repeat("sign", 16))),
		digest:    sha512.Sum512([]byte(payload)),
	}
	if got != want {
		t.Errorf("Of = %x, want %x", got, want)
	}
}

func TestWrongParts(t *testing.T) {
	s := sample()
	for _, c := range []struct {
		text, part string
		code       api.Errno
	}{
		{"", "the head", api.ErrShort},
		{s[:191], "the head", api.ErrShort},
		{"l" + s[1:], "the magic", api.ErrMagic},
		{s[:7] + "g" + s[8:], "the magic", api.ErrMagic},
		{s[:17] + "\x01" + s[18:], "the head's rest", api.ErrHead},
		{s[:63] + "\x80" + s[64:], "the head's rest", api.ErrHead},
		{s + "x", "the size", api.ErrLength},
		{s[:198], "the size", api.ErrLength},
		{s[:192], "the size", api.ErrLength},
	} {
		got, err := Of(c.text)
		checkWrong(t, err, c.part, c.code)
		if got != (Image{}) {
			t.Errorf("P1: with an error the image is %x", got)
		}
	}
}

func TestLittle(t *testing.T) {
	for text, want := range map[string]uint32{
		"\x00\x00\x00\x00": 0,
		"\x01\x00\x00\x00": 1,
		"\x00\x01\x00\x00": 1 << 8,
		"\x00\x00\x01\x00": 1 << 16,
		"\x00\x00\x00\x80": 1 << 31,
		"\xff\xff\xff\xff": 1<<32 - 1,
	} {
		if got := little(text); got != want {
			t.Errorf("little(%x) = %d, want %d", text, got, want)
		}
	}
}

// A payload may have more bytes than the head can tell.
func TestIsSize(t *testing.T) {
	for _, c := range []struct {
		told uint32
		has  int64
		want bool
	}{
		{0, 0, true}, {1, 0, false}, {0, 1, false}, {1<<32 - 1, 1<<32 - 1, true},
		{0, 1 << 32, false}, {5, 1<<32 + 5, false}, {1<<32 - 1, 1 << 32, false}, {1<<32 - 1, 1<<62 - 1, false},
	} {
		if int64(int(c.has)) != c.has {
			continue // no text can be as long as that here
		}
		if got := isSize(c.told, int(c.has)); got != c.want {
			t.Errorf("P9: isSize(%d, %d) = %v", c.told, c.has, got)
		}
	}
}

func TestCheckDigest(t *testing.T) {
	image, err := Of(sample())
	if err != nil {
		t.Fatal(err)
	}
	if err := image.CheckDigest(); err != nil {
		t.Errorf("P9: CheckDigest = %v", err)
	}
	for at := range image.digest {
		other := image
		other.digest[at]++
		checkWrong(t, other.CheckDigest(), "the digest", api.ErrDigest)
	}
	image.Payload += "x"
	checkWrong(t, image.CheckDigest(), "the digest", api.ErrDigest)
}
