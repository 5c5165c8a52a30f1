package signing

import (
	"latch/api"
	"latch/curve"
	"latch/fault"
	"latch/number"
	"latch/scalar"
)

// Public is what is worked out of a key.
type Public struct {
	base   *curve.Base
	key    curve.Code
	powers curve.Powers
}

// PublicOf works out a key, which is to verify by what base has of B; the error
// is fault.ErrPoint.
func PublicOf(base *curve.Base, key curve.Code) (Public, error) {
	powers, ok := base.PowersOf(key)
	if !ok {
		return Public{}, fault.At{What: "the key", Err: fault.ErrPoint}
	}
	return Public{base: base, key: key, powers: powers}, nil
}

// Verify tells what is wrong with a signature of a message by the key; nil, if
// it is right. It is the code of S B - k A that is held against R, so R itself
// is never decoded: what is no point's code is no sum's code either.
func (p Public) Verify(message string, signature [api.SignSize]byte) error {
	r := curve.Code(signature[:number.Size])
	s := number.OfBytes([number.Size]byte(signature[number.Size:]))
	if !scalar.Is(s) {
		return fault.At{What: "the signature's S", Err: fault.ErrScalar}
	}
	k := challenge(r, p.key, message)
	// A may have a part of small order: it is the point that takes the minus,
	// as L - k times A would be another one.
	sum := p.base.Times(s).Add(p.powers.Times(k).Opposite())
	if sum.Code() != r {
		return fault.At{What: "the signature", Err: fault.ErrSign}
	}
	return nil
}

// Verify tells what is wrong with a key and a signature of a message by it;
// nil, if nothing is.
func Verify(key, message, signature string) error {
	if err := fault.OfSize("the key", key, api.KeySize); err != nil {
		return err
	}
	if err := fault.OfSize("the signature", signature, api.SignSize); err != nil {
		return err
	}
	public, err := PublicOf(new(curve.Base), curve.Code([]byte(key)))
	if err != nil {
		return err
	}
	return public.Verify(message, [api.SignSize]byte([]byte(signature)))
}
