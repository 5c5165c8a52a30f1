// Package signing: Ed25519 (RFC 8032), seeds that sign and keys that verify.
package signing

import (
	"latch/api"
	"latch/curve"
	"latch/digest"
	"latch/fault"
	"latch/number"
	"latch/scalar"
)

// Secret is what is worked out of a seed.
type Secret struct {
	base   *curve.Base
	number [4]uint64
	prefix string
	key    curve.Code
}

// SecretOf works out a seed, which is to sign by what base has of B; the error is
// that of its size.
func SecretOf(base *curve.Base, seed string) (Secret, error) {
	if err := fault.OfSize("the seed", seed, api.KeySize); err != nil {
		return Secret{}, err
	}
	sum := digest.Of(seed)
	n := seedNumber([number.Size]byte(sum[:number.Size]))
	return Secret{
		base:   base,
		number: n,
		prefix: string(sum[number.Size:]),
		key:    base.Times(n).Code(),
	}, nil
}

// seedNumber tells the number of the first half of a seed's hash.
func seedNumber(half [number.Size]byte) [4]uint64 {
	const last = number.Size - 1
	half[0] &^= 0b111
	half[last] &^= 1 << 7
	half[last] |= 1 << 6
	return number.OfBytes(half)
}

// Key tells the seed's key.
func (s Secret) Key() curve.Code { return s.key }

// Sign tells the signature of a message.
func (s Secret) Sign(message string) [api.SignSize]byte {
	r := hashed(s.prefix, message)
	code := s.base.Times(r).Code()
	k := challenge(code, s.key, message)
	rest := number.Bytes(scalar.TimesPlus(k, s.number, r))
	var signature [api.SignSize]byte
	copy(signature[:], code[:])
	copy(signature[len(code):], rest[:])
	return signature
}

// challenge tells the number k that binds a signature's R to its key and its
// message.
func challenge(r, key curve.Code, message string) [4]uint64 {
	return hashed(string(r[:]), string(key[:]), message)
}

// hashed tells the hash of texts one behind the other, as a number modulo L.
func hashed(texts ...string) [4]uint64 {
	hasher := digest.New()
	for _, text := range texts {
		hasher.Write(text)
	}
	return scalar.Reduce(hasher.Sum())
}
