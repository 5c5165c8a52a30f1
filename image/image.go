// Package image: what stands in an image, a head and a payload.
package image

import (
	"latch/api"
	"latch/digest"
	"latch/fault"
)

// Where the parts of a head begin: each one goes on to the next.
const (
	versionAt   = len(api.Magic)
	sizeAt      = versionAt + 4
	slotAt      = sizeAt + 4
	restAt      = slotAt + 1
	digestAt    = restAt + restSize
	signatureAt = api.SignedSize
	payloadAt   = api.HeadSize
)

const restSize = 47

// Image is an image whose head is made as it should be. Its texts are pieces of
// the one that was looked at.
type Image struct {
	Version   uint32
	Slot      int
	Payload   string
	Signed    string
	Signature [api.SignSize]byte
	digest    [digest.Size]byte
}

// Of looks at a text; the error is that of its head's make, by the first part
// that is wrong.
func Of(text string) (Image, error) {
	if err := checkMake(text); err != nil {
		return Image{}, err
	}
	return Image{
		Version:   little(text[versionAt:sizeAt]),
		Slot:      int(text[slotAt]),
		Payload:   text[payloadAt:],
		Signed:    text[:signatureAt],
		Signature: [api.SignSize]byte([]byte(text[signatureAt:payloadAt])),
		digest:    [digest.Size]byte([]byte(text[digestAt:signatureAt])),
	}, nil
}

func checkMake(text string) error {
	if len(text) < api.HeadSize {
		return fault.OfImage("the head", api.ErrShort)
	}
	if text[:versionAt] != api.Magic {
		return fault.OfImage("the magic", api.ErrMagic)
	}
	if [restSize]byte([]byte(text[restAt:digestAt])) != [restSize]byte{} {
		return fault.OfImage("the head's rest", api.ErrHead)
	}
	if !isSize(little(text[sizeAt:slotAt]), len(text)-payloadAt) {
		return fault.OfImage("the size", api.ErrLength)
	}
	return nil
}

// little tells the number of four bytes, the first one the least.
func little(text string) uint32 {
	var n uint32
	for i := range 4 {
		n |= uint32(text[i]) << (8 * i)
	}
	return n
}

// isSize tells whether a head tells the size of what is behind it. That may be
// more than four bytes can tell: it is not cut down to them.
func isSize(told uint32, has int) bool { return uint64(told) == uint64(has) }

// CheckDigest tells whether the payload has another hash than the head tells.
func (i Image) CheckDigest() error {
	if digest.Of(i.Payload) != i.digest {
		return fault.OfImage("the digest", api.ErrDigest)
	}
	return nil
}
