// Package fault: what may be wrong with what is handed in, as errors.
package fault

import (
	"errors"
	"strconv"

	"latch/api"
)

// What is known to be wrong with a key, a signature or a list of keys.
var (
	ErrPoint  = errors.New("it is no point's code")
	ErrScalar = errors.New("it is not below L")
	ErrSign   = errors.New("it is not right")
	ErrKeys   = errors.New("they are too many, or one is of another size")
)

// SizeError is what is wrong with a text that has another number of bytes than
// it should.
type SizeError struct{ Has, Wants int }

func (e SizeError) Error() string {
	return "it has " + strconv.Itoa(e.Has) + " bytes, not " + strconv.Itoa(e.Wants)
}

// ImageError is what is wrong with a part of an image, by the number that the
// document gives it.
type ImageError struct{ Code api.Errno }

func (e ImageError) Error() string {
	switch e.Code {
	case api.ErrShort:
		return "it is too short"
	case api.ErrMagic:
		return "it is another one"
	case api.ErrHead:
		return "it is not all 0"
	case api.ErrLength, api.ErrDigest:
		return "it is not that of the payload"
	case api.ErrSlot:
		return "it has no key"
	case api.ErrOld:
		return "it is too old"
	}
	return "it is wrong by number " + strconv.Itoa(int(e.Code))
}

// At is an error with what was looked at when it was found.
type At struct {
	What string
	Err  error
}

func (e At) Error() string { return e.What + ": " + e.Err.Error() }

// Unwrap tells the error as it was found.
func (e At) Unwrap() error { return e.Err }

// OfSize tells what is wrong with a text that should have so many bytes; nil,
// if it has them.
func OfSize(what, text string, wants int) error {
	if len(text) == wants {
		return nil
	}
	return At{What: what, Err: SizeError{Has: len(text), Wants: wants}}
}

// OfImage tells that a part of an image is wrong.
func OfImage(part string, code api.Errno) error {
	return At{What: part, Err: ImageError{Code: code}}
}
