// Package latch: images that start only if they are signed: see DOC.md.
package latch

import (
	"errors"

	"latch/api"
	"latch/curve"
	"latch/digest"
	"latch/fault"
	"latch/loader"
	"latch/number"
	"latch/scalar"
	"latch/signing"
)

// Hash tells a text's hash (P3).
func Hash(s string) string {
	sum := digest.Of(s)
	return string(sum[:])
}

// Hasher hashes what is written to it.
type Hasher struct{ digest digest.Hasher }

// NewHasher answers a hasher of the empty text (P3).
func NewHasher() *Hasher { return &Hasher{digest: digest.New()} }

// Write puts a text behind what the hasher has (P3).
func (h *Hasher) Write(s string) { h.digest.Write(s) }

// Sum tells the hash of what the hasher has (P3).
func (h *Hasher) Sum() string {
	sum := h.digest.Sum()
	return string(sum[:])
}

// Reduce makes a scalar of 64 bytes (P4).
func Reduce(wide string) (string, api.Errno) {
	if len(wide) != scalar.WideSize {
		return "", api.ErrSize
	}
	reduced := number.Bytes(scalar.Reduce([scalar.WideSize]byte([]byte(wide))))
	return string(reduced[:]), api.OK
}

// Add adds two points (P5).
func Add(p string, q string) (string, api.Errno) {
	first, firstOK := pointOf(p)
	second, secondOK := pointOf(q)
	if !firstOK || !secondOK {
		return "", api.ErrPoint
	}
	sum := first.Add(second).Code()
	return string(sum[:]), api.OK
}

// pointOf tells the point of a text; false, if it is no point's code.
func pointOf(text string) (curve.Point, bool) {
	code, ok := keySized(text)
	if !ok {
		return curve.Point{}, false
	}
	return curve.Decode(code)
}

// keySized tells the bytes of a text that is as long as a key, a seed, a scalar
// or a point's code; false, if it is not.
func keySized(text string) ([api.KeySize]byte, bool) {
	if len(text) != api.KeySize {
		return [api.KeySize]byte{}, false
	}
	return [api.KeySize]byte([]byte(text)), true
}

// Times adds a point so many times (P5).
func Times(scalar string, p string) (string, api.Errno) {
	count, ok := keySized(scalar)
	if !ok {
		return "", api.ErrSize
	}
	code, ok := keySized(p)
	if !ok {
		return "", api.ErrPoint
	}
	powers, ok := new(curve.Base).PowersOf(code)
	if !ok {
		return "", api.ErrPoint
	}
	product := powers.Times(number.OfBytes(count)).Code()
	return string(product[:]), api.OK
}

// Key tells a seed's key (P6).
func Key(seed string) (string, api.Errno) {
	secret, err := signing.SecretOf(new(curve.Base), seed)
	if err != nil {
		return "", codeOf(err)
	}
	key := secret.Key()
	return string(key[:]), api.OK
}

// Sign signs a message (P6).
func Sign(seed string, message string) (string, api.Errno) {
	secret, err := signing.SecretOf(new(curve.Base), seed)
	if err != nil {
		return "", codeOf(err)
	}
	signature := secret.Sign(message)
	return string(signature[:]), api.OK
}

// Verify looks at a signature (P7).
func Verify(key string, message string, signature string) api.Errno {
	return codeOf(signing.Verify(key, message, signature))
}

// codeOf tells the number of what is wrong. An error that has none of its own
// is that of a signature that is not right, so that none is taken for OK.
func codeOf(err error) api.Errno {
	var size fault.SizeError
	var image fault.ImageError
	switch {
	case err == nil:
		return api.OK
	case errors.As(err, &size):
		return api.ErrSize
	case errors.As(err, &image) && image.Code != api.OK:
		return image.Code
	case errors.Is(err, fault.ErrKeys):
		return api.ErrKeys
	case errors.Is(err, fault.ErrPoint):
		return api.ErrPoint
	case errors.Is(err, fault.ErrScalar):
		return api.ErrScalar
	}
	return api.ErrSign
}

// Loader looks at images.
type Loader struct{ loader loader.Loader }

// New makes a loader (P8).
func New(keys []string, version uint32) (*Loader, api.Errno) {
	inner, err := loader.New(keys, version)
	if err != nil {
		return nil, codeOf(err)
	}
	return &Loader{loader: inner}, api.OK
}

// Load looks at an image (P9).
func (l *Loader) Load(image string) api.Verdict {
	taken, err := l.loader.Load(image)
	if err != nil {
		return api.Verdict{Code: codeOf(err)}
	}
	return api.Verdict{
		Version: taken.Version,
		Slot:    taken.Slot,
		From:    api.HeadSize,
		Size:    len(taken.Payload),
	}
}

// Version tells the least version that is taken (P9).
func (l *Loader) Version() uint32 { return l.loader.Least() }
