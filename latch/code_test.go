package latch

import (
	"errors"
	"testing"

	"latch/api"
	"latch/fault"
)

func TestCodeOf(t *testing.T) {
	for _, c := range []struct {
		err  error
		want api.Errno
	}{
		{fault.SizeError{Has: 1, Wants: 2}, api.ErrSize},
		{fault.ErrPoint, api.ErrPoint},
		{fault.ErrScalar, api.ErrScalar},
		{fault.ErrSign, api.ErrSign},
		{fault.ErrKeys, api.ErrKeys},
		{fault.ImageError{Code: api.ErrShort}, api.ErrShort},
		{fault.ImageError{Code: api.ErrMagic}, api.ErrMagic},
		{fault.ImageError{Code: api.ErrHead}, api.ErrHead},
		{fault.ImageError{Code: api.ErrLength}, api.ErrLength},
		{fault.ImageError{Code: api.ErrSlot}, api.ErrSlot},
		{fault.ImageError{Code: api.ErrOld}, api.ErrOld},
		{fault.ImageError{Code: api.ErrDigest}, api.ErrDigest},
		{fault.ImageError{}, api.ErrSign},
		{errors.New("not known"), api.ErrSign},
	} {
		once := fault.At{What: "it", Err: c.err}
		for _, err := range []error{c.err, once, fault.At{What: "around it", Err: once}} {
			if got := codeOf(err); got != c.want {
				t.Errorf("Ways: codeOf(%v) = %d, want %d", err, got, c.want)
			}
		}
	}
	if got := codeOf(nil); got != api.OK {
		t.Errorf("codeOf(nil) = %d", got)
	}
}
