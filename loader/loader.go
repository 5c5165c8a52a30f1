// Package loader: keys that are trusted, and what they let through.
package loader

import (
	"latch/api"
	"latch/curve"
	"latch/fault"
	"latch/image"
	"latch/signing"
)

// Loader takes images that one of its keys has signed, and that are not older
// than what it has taken already.
type Loader struct {
	keys  []curve.Code
	least uint32
	base  *curve.Base
	// What is worked out of keys that were asked for.
	publics map[curve.Code]signing.Public
}

// New answers a loader of some keys, with the least version that it takes; the
// error is fault.ErrKeys. A key is looked into only when an image asks for it.
func New(keys []string, least uint32) (Loader, error) {
	codes, ok := codesOf(keys)
	if !ok {
		return Loader{}, fault.At{What: "the keys", Err: fault.ErrKeys}
	}
	return Loader{
		keys:    codes,
		least:   least,
		base:    new(curve.Base),
		publics: map[curve.Code]signing.Public{},
	}, nil
}

// codesOf tells the bytes of some keys; false, if they are too many, or one is
// of another size.
func codesOf(keys []string) ([]curve.Code, bool) {
	if len(keys) > api.MaxKeys {
		return nil, false
	}
	var codes []curve.Code
	for _, key := range keys {
		if len(key) != api.KeySize {
			return nil, false
		}
		codes = append(codes, curve.Code([]byte(key)))
	}
	return codes, true
}

// Least tells the least version that is taken.
func (l *Loader) Least() uint32 { return l.least }

// Load tells the image of a text, if it is taken; else the first thing that is
// wrong with it.
func (l *Loader) Load(text string) (image.Image, error) {
	candidate, err := image.Of(text)
	if err == nil {
		err = l.check(candidate)
	}
	if err != nil {
		return image.Image{}, fault.At{What: "the image", Err: err}
	}
	l.least = candidate.Version
	return candidate, nil
}

// check tells what this loader has against an image.
func (l *Loader) check(candidate image.Image) error {
	if candidate.Slot >= len(l.keys) {
		return fault.OfImage("the slot", api.ErrSlot)
	}
	if candidate.Version < l.least {
		return fault.OfImage("the version", api.ErrOld)
	}
	if err := candidate.CheckDigest(); err != nil {
		return err
	}
	public, err := l.public(l.keys[candidate.Slot])
	if err != nil {
		return err
	}
	return public.Verify(candidate.Signed, candidate.Signature)
}

// public tells what is worked out of a key; the error is fault.ErrPoint.
func (l *Loader) public(key curve.Code) (signing.Public, error) {
	if public, ok := l.publics[key]; ok {
		return public, nil
	}
	public, err := signing.PublicOf(l.base, key)
	if err != nil {
		return signing.Public{}, err
	}
	l.publics[key] = public
	return public, nil
}
