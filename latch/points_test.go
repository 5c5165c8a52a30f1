package latch_test

import (
	"encoding/hex"
	"math/big"
	"strings"
	"sync"
	"testing"
	"unsafe"

	"latch/api"
	"latch/latch"
)

const noughts = "\x00\x00\x00\x00\x00\x00\x00\x00\x00\x00\x00\x00\x00\x00\x00\x00\x00\x00\x00\x00\x00\x00\x00\x00\x00\x00\x00\x00\x00\x00\x00\x00"

func zeroCode() string { return "\x01" + noughts[1:] }

func baseCode() string { return "\x58" + strings.Repeat("\x66", 31) }

// text makes a text of bytes in hex.
func text(t *testing.T, digits string) string {
	t.Helper()
	b, err := hex.DecodeString(digits)
	if err != nil {
		t.Fatal(err)
	}
	return string(b)
}

// smallCodes are the codes of all points whose eightfold is the zero.
func smallCodes(t *testing.T) []string {
	t.Helper()
	const eighth = "c7176a703d4dd84fba3c0b760d10670f2a2053fa2c39ccc64ec7fd7792ac037a"
	p, ok := pairOf(text(t, eighth))
	if !ok || p.times(whole(8)).code() != zeroCode() || p.times(whole(4)).code() == zeroCode() {
		t.Fatal("the sample is no point of order 8")
	}
	var codes []string
	for n := range int64(8) {
		codes = append(codes, p.times(whole(n)).code())
	}
	return codes
}

// someCodes are codes of points of all kinds of order.
func someCodes(t *testing.T) []string {
	t.Helper()
	codes := append(smallCodes(t), baseCode(), basePair().opposite().code())
	for n := range 6 {
		p := basePair().times(numberOf(mixed(32 + n)))
		small, _ := pairOf(codes[n%8])
		codes = append(codes, p.code(), p.opposite().code(), p.add(small).code())
	}
	return codes
}

// noCodes are texts that are no point's code.
func noCodes(t *testing.T) []string {
	t.Helper()
	texts := []string{"", "\x01", baseCode()[:31], baseCode() + "\x00", zeroCode()[:31], zeroCode() + "\x00", noughts[:31], noughts + "\x00",
		strings.Repeat(baseCode(), 2), strings.Repeat("\x66", 1<<20)}
	for n := range int64(19) {
		y := plus(prime(), whole(n))
		texts = append(texts, little(y, 32), little(plus(y, power2(255)), 32))
	}
	// 128 where x is 0, at y 1 and at y -1.
	texts = append(texts, little(plus(whole(1), power2(255)), 32), little(plus(plus(prime(), whole(-1)), power2(255)), 32))
	for n := range int64(40) {
		y := plus(whole(2), whole(n))
		for _, code := range []string{little(y, 32), little(plus(prime(), new(big.Int).Neg(y)), 32), little(plus(y, power2(255)), 32)} {
			if _, ok := pairOf(code); !ok {
				texts = append(texts, code)
			}
		}
	}
	if len(texts) < 80 {
		t.Fatalf("%d samples: none of those without an x is among them", len(texts))
	}
	return texts
}

func checkAdd(t *testing.T, p, q string) {
	t.Helper()
	first, _ := pairOf(p)
	second, _ := pairOf(q)
	want := first.add(second).code()
	if got, code := latch.Add(p, q); got != want || code != api.OK {
		t.Errorf("P5: Add(%x, %x) = %x, %d, want %x", p, q, got, code, want)
	}
}

func checkTimes(t *testing.T, n *big.Int, p string) {
	t.Helper()
	point, _ := pairOf(p)
	want := point.times(n).code()
	if got, code := latch.Times(little(n, 32), p); got != want || code != api.OK {
		t.Errorf("P5: Times(%x, %x) = %x, %d, want %x", n, p, got, code, want)
	}
}

func TestAddExample(t *testing.T) {
	want := text(t, "c9a3f86aae465f0e56513864510f3997561fa2c9e85ea21dc2292309f3cd6022")
	if got, code := latch.Add(baseCode(), baseCode()); got != want || code != api.OK {
		t.Errorf("P5: Add(B, B) = %x, %d, want %x", got, code, want)
	}
}

// All pairs: among them a point and itself, a point and its opposite, the zero,
// and points of small order.
func TestAdd(t *testing.T) {
	codes := someCodes(t)
	for _, p := range codes {
		for _, q := range codes {
			checkAdd(t, p, q)
		}
	}
}

func TestAddNamesTheZero(t *testing.T) {
	for _, p := range someCodes(t) {
		pair, _ := pairOf(p)
		if got, code := latch.Add(p, pair.opposite().code()); got != zeroCode() || code != api.OK {
			t.Errorf("P5: %x and its opposite = %x, %d", p, got, code)
		}
		if got, code := latch.Add(zeroCode(), p); got != p || code != api.OK {
			t.Errorf("P5: the zero and %x = %x, %d", p, got, code)
		}
	}
}

func TestAddRefuses(t *testing.T) {
	for _, bad := range noCodes(t) {
		for _, pair := range [][2]string{{bad, baseCode()}, {baseCode(), bad}, {bad, zeroCode()}, {bad, bad}, {bad, ""}} {
			if got, code := latch.Add(pair[0], pair[1]); got != "" || code != api.ErrPoint {
				t.Errorf("P5: Add(%.40x, %.40x) = %x, %d, want ErrPoint", pair[0], pair[1], got, code)
			}
		}
	}
}

// Every small y, and every y just below p, with and without 128: a point's code
// or none, as the reference tells.
func TestWhatIsAPoint(t *testing.T) {
	points := 0
	for n := range int64(300) {
		y := new(big.Int).Mod(plus(whole(n), whole(-150)), prime())
		for _, p := range []string{little(y, 32), little(plus(y, power2(255)), 32)} {
			want, wantCode := "", api.ErrPoint
			if _, ok := pairOf(p); ok {
				want, wantCode = p, api.OK
				points++
			}
			if got, code := latch.Add(p, zeroCode()); got != want || code != wantCode {
				t.Errorf("P5: Add(%x, zero) = %x, %d, want %x, %d", p, got, code, want, wantCode)
			}
		}
	}
	if points < 200 || points > 400 {
		t.Errorf("%d points of 600 samples", points)
	}
}

func TestTimes(t *testing.T) {
	numbers := []*big.Int{
		whole(0), whole(1), whole(2), whole(7), whole(8), plus(power2(64), whole(-1)), power2(64), power2(128), power2(192), power2(255),
		plus(order(), whole(-1)), order(), plus(order(), whole(1)), plus(order(), order()), plus(power2(256), whole(-1)), numberOf(mixed(32)),
	}
	for at, p := range someCodes(t) {
		for i, n := range numbers {
			if at < 10 || i%3 == at%3 { // the reference takes its time
				checkTimes(t, n, p)
			}
		}
	}
}

func TestTimesEveryBit(t *testing.T) {
	want := basePair()
	for bit := range uint(256) {
		if got, code := latch.Times(little(power2(bit), 32), baseCode()); got != want.code() || code != api.OK {
			t.Errorf("P5: 2^%d times B = %x, %d, want %x", bit, got, code, want.code())
		}
		want = want.add(want)
	}
}

func TestTimesMixed(t *testing.T) {
	for n, p := range someCodes(t) {
		checkTimes(t, numberOf(mixed(100 + n)[:32]), baseCode())
		checkTimes(t, numberOf(mixed(200 + n)[:32]), p)
	}
}

func TestTimesOrderIsZero(t *testing.T) {
	if got, code := latch.Times(little(order(), 32), baseCode()); got != zeroCode() || code != api.OK {
		t.Errorf("P10: L times B = %x, %d", got, code)
	}
}

func TestTimesRefuses(t *testing.T) {
	for _, bad := range noCodes(t) {
		for _, n := range []string{noughts, zeroCode(), strings.Repeat("\xff", 32)} {
			if got, code := latch.Times(n, bad); got != "" || code != api.ErrPoint {
				t.Errorf("P5: Times(%x, %.40x) = %x, %d, want ErrPoint", n, bad, got, code)
			}
		}
	}
	for _, size := range []int{0, 1, 31, 33, 63, 64, 65, 1 << 20} {
		for _, p := range []string{baseCode(), zeroCode(), "", "no point", little(prime(), 32)} {
			if got, code := latch.Times(mixed(size), p); got != "" || code != api.ErrSize {
				t.Errorf("P5: Times of %d bytes and %x = %x, %d, want ErrSize", size, p, got, code)
			}
		}
	}
}

func TestPointsAreAGroup(t *testing.T) {
	add := func(p, q string) string { sum, _ := latch.Add(p, q); return sum }
	by := func(n *big.Int, p string) string { product, _ := latch.Times(little(n, 32), p); return product }
	codes := someCodes(t)
	for i, p := range codes {
		q, r := codes[(i+5)%len(codes)], codes[(i+11)%len(codes)]
		if add(add(p, q), r) != add(p, add(q, r)) || add(p, q) != add(q, p) {
			t.Errorf("P10: the sum of %x, %x and %x hangs on the order", p, q, r)
		}
		n, m := numberOf(mixed(31 + i)[:31]), numberOf(mixed(62 + i)[:31])
		if add(by(n, p), by(m, p)) != by(plus(n, m), p) {
			t.Errorf("P10: s P + t P is not (s + t) P at %x", p)
		}
		if by(n, add(p, q)) != add(by(n, p), by(n, q)) || by(n, by(m, p)) != by(m, by(n, p)) {
			t.Errorf("P10: multiples of %x and %x do not go together", p, q)
		}
	}
}

// The texts lie over bytes that the test writes over afterwards: an answer that
// shared them would change.
func TestPointTextsAreNeitherKeptNorChanged(t *testing.T) {
	n, p := []byte(zeroCode()), []byte(baseCode())
	scalar, code := unsafe.String(&n[0], len(n)), unsafe.String(&p[0], len(p))
	product, _ := latch.Times(scalar, code)
	sum, _ := latch.Add(code, scalar)
	if string(n) != zeroCode() || string(p) != baseCode() {
		t.Fatal("P2: a text was changed")
	}
	clear(n)
	clear(p)
	if product != baseCode() || sum != baseCode() {
		t.Errorf("P2: answers %x and %x have changed with what was handed in", product, sum)
	}
	if again, _ := latch.Times(zeroCode(), baseCode()); again != baseCode() {
		t.Errorf("P2: once B is %x", again)
	}
}

func TestPointsTheSameAgain(t *testing.T) {
	want, _ := latch.Times(mixed(32), baseCode())
	other, _ := latch.Times(mixed(32), want)
	var group sync.WaitGroup
	for range 8 {
		group.Go(func() {
			for range 10 {
				latch.Add(want, "none")
				latch.Times("", want)
				product, _ := latch.Times(mixed(32), baseCode())
				if next, _ := latch.Times(mixed(32), product); product != want || next != other {
					t.Errorf("P2: answers hang on other calls: %x, %x", product, next)
				}
			}
		})
	}
	group.Wait()
}
