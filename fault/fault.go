// Package fault: what may be wrong with what is handed in, as errors.
package fault

import (
	"errors"
	"strconv"
)

// What is known to be wrong with a key or a signature.
var (
	ErrPoint  = errors.New("it is no point's code")
	ErrScalar = errors.New("it is not below L")
	ErrSign   = errors.New("it is not right")
)

// SizeError is what is wrong with a text that has another number of bytes than
// it should.
type SizeError struct{ Has, Wants int }

func (e SizeError) Error() string {
	return "it has " + strconv.Itoa(e.Has) + " bytes, not " + strconv.Itoa(e.Wants)
}

// At is an error with what was looked at when it was found.
type At struct {
	What string
	Err  error
}

func (e At) Error() string { return e.What + ": " + e.Err.Error() }

// Unwrap tells the error as it was found.
func (e At) Unwrap() error { return e.Err }

// OfSize tells what is wrong with a text that should have so many bytes; nil,
// if it has them.
func OfSize(what, text string, wants int) error {
	if len(text) == wants {
		return nil
	}
	return At{What: what, Err: SizeError{Has: len(text), Wants: wants}}
}
