package latch_test

import (
	"math/big"
	"strings"
	"testing"
	"unsafe"

	"latch/api"
	"latch/latch"
)

func checkReduce(t *testing.T, wide string) {
	t.Helper()
	want := little(new(big.Int).Mod(numberOf(wide), order()), 32)
	if got, code := latch.Reduce(wide); got != want || code != api.OK {
		t.Errorf("P4: Reduce(%x) = %x, %d, want %x", wide, got, code, want)
	}
}

func TestReduceExample(t *testing.T) {
	l := text(t, "edd3f55c1a631258d69cf7a2def9de1400000000000000000000000000000010")
	if got, code := latch.Reduce(l + noughts); got != noughts || code != api.OK {
		t.Errorf("P4: Reduce(L) = %x, %d", got, code)
	}
}

func TestReduce(t *testing.T) {
	checkReduce(t, noughts+noughts)
	checkReduce(t, strings.Repeat("\xff", 64))
	for n := range 500 {
		checkReduce(t, mixed(64 + n)[:64])
	}
}

// L, twice L and so on to the greatest multiple that 64 bytes hold, each with
// what is beside it.
func TestReduceAroundMultiples(t *testing.T) {
	greatest := new(big.Int).Div(plus(power2(512), whole(-1)), order())
	factors := []*big.Int{whole(1), whole(2), whole(3), whole(15), whole(16), order(), power2(255), power2(259), plus(greatest, whole(-1)), greatest}
	for _, factor := range factors {
		multiple := new(big.Int).Mul(factor, order())
		for n := range int64(5) {
			checkReduce(t, little(plus(multiple, whole(n-2)), 64))
		}
	}
}

// What is below L stays as it is, the least and the greatest too.
func TestReduceOfScalars(t *testing.T) {
	for _, n := range []*big.Int{whole(0), whole(1), whole(255), power2(64), power2(252), plus(order(), whole(-1))} {
		if got, code := latch.Reduce(little(n, 64)); got != little(n, 32) || code != api.OK {
			t.Errorf("P4: Reduce(%x) = %x, %d", n, got, code)
		}
	}
}

func TestReduceRefuses(t *testing.T) {
	for _, size := range []int{0, 1, 31, 32, 33, 63, 65, 96, 128, 1 << 20} {
		for _, wide := range []string{mixed(size), strings.Repeat("\x00", size)} {
			if got, code := latch.Reduce(wide); got != "" || code != api.ErrSize {
				t.Errorf("P4: Reduce of %d bytes = %x, %d, want ErrSize", size, got, code)
			}
		}
	}
}

func TestReduceNeitherKeepsNorChanges(t *testing.T) {
	under := []byte(zeroCode() + noughts)
	got, _ := latch.Reduce(unsafe.String(&under[0], len(under)))
	if string(under) != zeroCode()+noughts {
		t.Fatal("P2: the text was changed")
	}
	clear(under)
	if got != zeroCode() {
		t.Errorf("P2: the answer %x has changed with what was handed in", got)
	}
}
