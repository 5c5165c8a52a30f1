package fault

import (
	"errors"
	"strings"
	"testing"

	"latch/api"
)

func known() []error {
	return []error{ErrPoint, ErrScalar, ErrSign, ErrKeys, ImageError{Code: api.ErrSlot}, ImageError{Code: api.ErrOld}}
}

// An error that is wrapped, once or twice, is still found, and no other one.
func TestWrappedIsFound(t *testing.T) {
	for _, inner := range known() {
		once := At{What: "the key", Err: inner}
		for _, err := range []error{inner, once, At{What: "the image", Err: once}} {
			for _, other := range known() {
				if errors.Is(err, other) != (inner == other) {
					t.Errorf("Ways: errors.Is(%v, %v) is %v", err, other, errors.Is(err, other))
				}
			}
			var size SizeError
			if errors.As(err, &size) {
				t.Errorf("Ways: %v is taken for a size", err)
			}
		}
	}
}

func TestErrorTellsWhatWasLookedAt(t *testing.T) {
	err := At{What: "the image", Err: At{What: "the key", Err: ErrPoint}}
	if want := "the image: the key: it is no point's code"; err.Error() != want {
		t.Errorf("Error() = %q, want %q", err.Error(), want)
	}
}

func TestOfSize(t *testing.T) {
	for _, size := range []int{0, 1, 31, 32, 33, 64} {
		err := OfSize("the seed", strings.Repeat("x", size), 32)
		if size == 32 {
			if err != nil {
				t.Errorf("OfSize of 32 bytes = %v", err)
			}
			continue
		}
		var found SizeError
		if !errors.As(err, &found) || found != (SizeError{Has: size, Wants: 32}) {
			t.Errorf("OfSize of %d bytes = %v", size, err)
		}
		for _, other := range known() {
			if errors.Is(err, other) {
				t.Errorf("Ways: %v is taken for %v", err, other)
			}
		}
	}
	if got, want := OfSize("the seed", "x", 32).Error(), "the seed: it has 1 bytes, not 32"; got != want {
		t.Errorf("Error() = %q, want %q", got, want)
	}
}

func TestOfImage(t *testing.T) {
	for code, want := range map[api.Errno]string{
		api.ErrShort:  "the part: it is too short",
		api.ErrMagic:  "the part: it is another one",
		api.ErrHead:   "the part: it is not all 0",
		api.ErrLength: "the part: it is not that of the payload",
		api.ErrSlot:   "the part: it has no key",
		api.ErrOld:    "the part: it is too old",
		api.ErrDigest: "the part: it is not that of the payload",
		api.ErrSize:   "the part: it is wrong by number 1",
	} {
		err := OfImage("the part", code)
		var found ImageError
		if !errors.As(err, &found) || found.Code != code || err.Error() != want {
			t.Errorf("Ways: OfImage of %d = %v, want %s", code, err, want)
		}
	}
}
