package curve

import (
	"sync"
	"testing"

	"latch/field"
)

func small(n uint64) field.Element { return field.Element{n} }

func TestConstants(t *testing.T) {
	if want := (field.Element{}).Minus(small(121665)).Times(small(121666).Inverse()); d != want {
		t.Errorf("d is %x, want %x", d, want)
	}
	if twoD != d.Plus(d) {
		t.Errorf("2 d is %x, want %x", twoD, d.Plus(d))
	}
	base, ok := Decode(baseCode)
	if !ok || base.y != small(4).Times(small(5).Inverse()) || base.x.IsOdd() {
		t.Errorf("B is %x, %v", base, ok)
	}
}

func wantPowers() Powers {
	base, _ := Decode(baseCode)
	return base.Powers()
}

func TestBaseIsWorkedOutWhenAskedFor(t *testing.T) {
	var base Base
	point, _ := Decode(baseCode)
	twice := point.Add(point).Code()
	if powers, ok := base.PowersOf(twice); !ok || powers.Times([4]uint64{3}).Code() != wantPowers().Times([4]uint64{6}).Code() {
		t.Errorf("three times %x is another", twice)
	}
	if _, ok := base.PowersOf(Code{2}); ok {
		t.Error("2 is taken for a point's code")
	}
	if base.powers != (Powers{}) {
		t.Error("Ways: B's powers are worked out, though not asked for")
	}
	if powers, ok := base.PowersOf(baseCode); !ok || powers != wantPowers() {
		t.Errorf("PowersOf(B) = %x, %v", powers, ok)
	}
	if base.powers != wantPowers() {
		t.Error("Ways: B's powers are asked for, but not kept")
	}
}

func TestBaseIsWorkedOutOnce(t *testing.T) {
	var base Base
	base.Times([4]uint64{1})
	if base.powers != wantPowers() {
		t.Error("Ways: B's powers are asked for, but not kept")
	}
	base.powers[0] = zero()
	if base.Powers()[0] != zero() {
		t.Error("Ways: B's powers are worked out again")
	}
	if powers, _ := base.PowersOf(baseCode); powers[0] != zero() {
		t.Error("Ways: B's powers are worked out beside those that are kept")
	}
	if base.Times([4]uint64{1}).Code() != zero().Code() {
		t.Error("Ways: B's powers are worked out for each multiple")
	}
}

func TestBaseAskedForByManyAtOnce(t *testing.T) {
	var base Base
	var group sync.WaitGroup
	for range 16 {
		group.Go(func() {
			if base.Powers() != wantPowers() {
				t.Error("P2: B's powers hang on other calls")
			}
		})
	}
	group.Wait()
}

// What a base has handed out is a copy: no one may change what the others get.
func TestBaseHandsOutCopies(t *testing.T) {
	var base Base
	powers := base.Powers()
	powers[0] = zero()
	if base.Powers() != wantPowers() || new(Base).Powers() != wantPowers() {
		t.Error("P2: B's powers can be changed from outside")
	}
}

func TestDoubleIsAdd(t *testing.T) {
	p, _ := Decode(baseCode)
	for range 100 {
		if p.Double().Code() != p.Add(p).Code() {
			t.Fatalf("twice %x is %x, its sum with itself %x", p.Code(), p.Double().Code(), p.Add(p).Code())
		}
		p = p.Double().Add(wantPowers()[1])
	}
}

func TestOpposite(t *testing.T) {
	p, _ := Decode(baseCode)
	for _, q := range []Point{zero(), p, p.Double(), p.Add(p.Double()), wantPowers()[2]} {
		if sum := q.Add(q.Opposite()).Code(); sum != zero().Code() {
			t.Errorf("%x and its opposite are %x", q.Code(), sum)
		}
		if q.Opposite().Opposite() != q {
			t.Errorf("the opposite's opposite of %x is another", q)
		}
	}
}

// x y / z has to go along with x, y and z, though the code does not show it.
func TestPartsGoTogether(t *testing.T) {
	p, _ := Decode(baseCode)
	for _, q := range []Point{p, zero(), p.Double(), p.Add(p), p.Add(p.Double()), p.Opposite(), p.Double().Opposite(), wantPowers()[3], wantPowers().Times([4]uint64{5, 6, 7, 8})} {
		if q.xy.Times(q.z) != q.x.Times(q.y) || q.z == (field.Element{}) {
			t.Errorf("the parts of %x do not go together", q)
		}
	}
}

func TestPowers(t *testing.T) {
	for i, power := range wantPowers() {
		var n [4]uint64
		n[i] = 1
		if got := new(Base).Times(n).Code(); got != power.Code() {
			t.Errorf("2^%d times B is %x, want %x", 64*i, got, power.Code())
		}
	}
}
