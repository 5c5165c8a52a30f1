package latch_test

import (
	"math/big"
	"slices"
	"strings"

	"latch/api"
)

// The document's numbers, points and sums, word by word, as what the calls are
// held against.

func whole(n int64) *big.Int { return big.NewInt(n) }

func power2(n uint) *big.Int { return new(big.Int).Lsh(whole(1), n) }

func plus(a, b *big.Int) *big.Int { return new(big.Int).Add(a, b) }

func prime() *big.Int { return plus(power2(255), whole(-19)) }

func order() *big.Int {
	n, _ := new(big.Int).SetString("27742317777372353535851937790883648493", 10)
	return plus(n, power2(252))
}

// little tells a number as a text of so many bytes.
func little(n *big.Int, size int) string {
	b := n.FillBytes(make([]byte, size))
	slices.Reverse(b)
	return string(b)
}

func numberOf(s string) *big.Int {
	b := []byte(s)
	slices.Reverse(b)
	return new(big.Int).SetBytes(b)
}

func times(factors ...*big.Int) *big.Int {
	product := whole(1)
	for _, factor := range factors {
		product.Mul(product, factor).Mod(product, prime())
	}
	return product
}

func over(a, b *big.Int) *big.Int {
	lower := new(big.Int).Mod(b, prime())
	return times(a, lower.ModInverse(lower, prime()))
}

var curveD = over(whole(-121665), whole(121666))

type pair struct{ x, y *big.Int }

func zeroPair() pair { return pair{whole(0), whole(1)} }

func (p pair) opposite() pair { return pair{times(whole(-1), p.x), p.y} }

func (p pair) add(q pair) pair {
	all := times(curveD, p.x, q.x, p.y, q.y)
	return pair{
		over(plus(times(p.x, q.y), times(q.x, p.y)), plus(whole(1), all)),
		over(plus(times(p.y, q.y), times(p.x, q.x)), plus(whole(1), new(big.Int).Neg(all))),
	}
}

func (p pair) times(n *big.Int) pair {
	product := zeroPair()
	for bit := n.BitLen() - 1; bit >= 0; bit-- {
		product = product.add(product)
		if n.Bit(bit) == 1 {
			product = product.add(p)
		}
	}
	return product
}

func (p pair) code() string {
	return little(plus(p.y, new(big.Int).Lsh(whole(int64(p.x.Bit(0))), 255)), 32)
}

// pairOf tells a code's point; false, if it is no point's code.
func pairOf(code string) (pair, bool) {
	if len(code) != 32 {
		return pair{}, false
	}
	y := numberOf(code)
	odd := y.Bit(255)
	y.SetBit(y, 255, 0)
	if y.Cmp(prime()) >= 0 {
		return pair{}, false
	}
	square := times(y, y)
	x := over(plus(square, whole(-1)), plus(times(curveD, square), whole(1)))
	if x.ModSqrt(x, prime()) == nil {
		return pair{}, false
	}
	if x.Bit(0) != odd {
		x = times(whole(-1), x)
	}
	return pair{x, y}, x.Bit(0) == odd
}

func basePair() pair {
	p, _ := pairOf(little(over(whole(4), whole(5)), 32))
	return p
}

// hashNumber is the document's H(..).
func hashNumber(texts ...string) *big.Int {
	n := numberOf(wanted(strings.Join(texts, "")))
	return n.Mod(n, order())
}

// seedParts tells a seed's number and its prefix.
func seedParts(seed string) (*big.Int, string) {
	sum := wanted(seed)
	a := numberOf(sum[:32])
	for _, bit := range []int{0, 1, 2, 255} {
		a.SetBit(a, bit, 0)
	}
	return a.SetBit(a, 254, 1), sum[32:]
}

func wantKey(seed string) string {
	a, _ := seedParts(seed)
	return basePair().times(a).code()
}

func wantSign(seed, message string) string {
	a, prefix := seedParts(seed)
	r := hashNumber(prefix, message)
	return signedBy(a, wantKey(seed), r, basePair().times(r).code(), message)
}

// signedBy tells R and r + k a modulo L, at any R.
func signedBy(a *big.Int, key string, r *big.Int, code, message string) string {
	s := new(big.Int).Mul(hashNumber(code, key, message), a)
	return code + little(s.Mod(s.Add(s, r), order()), 32)
}

func wantVerify(key, message, signature string) api.Errno {
	if len(key) != 32 || len(signature) != 64 {
		return api.ErrSize
	}
	point, ok := pairOf(key)
	if !ok {
		return api.ErrPoint
	}
	s := numberOf(signature[32:])
	if s.Cmp(order()) >= 0 {
		return api.ErrScalar
	}
	k := hashNumber(signature[:32], key, message)
	if basePair().times(s).add(point.times(k).opposite()).code() != signature[:32] {
		return api.ErrSign
	}
	return api.OK
}
