package curve

import (
	"sync"
	"testing"

	"latch/field"
)

func small(n uint64) field.Element { return field.Element{n} }

func TestConstants(t *testing.T) {
	if want := (field.Element{}).Minus(small(121665)).Times(small(121666).Inverse()); d != want {
		t.Errorf("d is %x, want %x", d, want)
	}
	if twoD != d.Plus(d) {
		t.Errorf("2 d is %x, want %x", twoD, d.Plus(d))
	}
	base, ok := Decode(baseCode)
	if !ok || base.y != small(4).Times(small(5).Inverse()) || base.x.IsOdd() {
		t.Errorf("B is %x, %v", base, ok)
	}
}

// forgetBase makes B's powers as they are ahead of the first ask.
func forgetBase() {
	ofBase.once = sync.Once{}
	ofBase.powers = Powers{}
}

func wantBase() Powers {
	base, _ := Decode(baseCode)
	return base.Powers()
}

func TestBaseIsWorkedOutWhenAskedFor(t *testing.T) {
	forgetBase()
	defer forgetBase()
	base, _ := Decode(baseCode)
	twice := base.Add(base).Code()
	if powers, ok := PowersOf(twice); !ok || powers.Times([4]uint64{3}).Code() != base.Powers().Times([4]uint64{6}).Code() {
		t.Errorf("three times %x is another", twice)
	}
	if ofBase.powers != (Powers{}) {
		t.Error("Ways: B's powers are worked out, though not asked for")
	}
	if powers, ok := PowersOf(baseCode); !ok || powers != wantBase() {
		t.Errorf("PowersOf(B) = %x, %v", powers, ok)
	}
	if ofBase.powers != wantBase() {
		t.Error("Ways: B's powers are asked for, but not kept")
	}
}

func TestBaseIsWorkedOutOnce(t *testing.T) {
	forgetBase()
	defer forgetBase()
	Base()
	ofBase.powers[0] = zero()
	if Base()[0] != zero() {
		t.Error("Ways: B's powers are worked out again")
	}
}

func TestBaseAskedForByManyAtOnce(t *testing.T) {
	forgetBase()
	var group sync.WaitGroup
	for range 16 {
		group.Go(func() {
			if Base() != wantBase() {
				t.Error("P2: B's powers hang on other calls")
			}
		})
	}
	group.Wait()
}

// What Base has handed out is a copy: no one may change what the others get.
func TestBaseHandsOutCopies(t *testing.T) {
	powers := Base()
	powers[0] = zero()
	if Base() != wantBase() {
		t.Error("P2: B's powers can be changed from outside")
	}
}

func TestDoubleIsAdd(t *testing.T) {
	p, _ := Decode(baseCode)
	for range 100 {
		if p.Double().Code() != p.Add(p).Code() {
			t.Fatalf("twice %x is %x, its sum with itself %x", p.Code(), p.Double().Code(), p.Add(p).Code())
		}
		p = p.Double().Add(Base()[1])
	}
}

func TestOpposite(t *testing.T) {
	p, _ := Decode(baseCode)
	for _, q := range []Point{zero(), p, p.Double(), p.Add(p.Double()), Base()[2]} {
		if sum := q.Add(q.Opposite()).Code(); sum != zero().Code() {
			t.Errorf("%x and its opposite are %x", q.Code(), sum)
		}
		if q.Opposite().Opposite() != q {
			t.Errorf("the opposite's opposite of %x is another", q)
		}
	}
}

// x y / z has to go along with x, y and z, though the code does not show it.
func TestPartsGoTogether(t *testing.T) {
	p, _ := Decode(baseCode)
	for _, q := range []Point{p, zero(), p.Double(), p.Add(p), p.Add(p.Double()), p.Opposite(), p.Double().Opposite(), Base()[3], Base().Times([4]uint64{5, 6, 7, 8})} {
		if q.xy.Times(q.z) != q.x.Times(q.y) || q.z == (field.Element{}) {
			t.Errorf("the parts of %x do not go together", q)
		}
	}
}

func TestPowers(t *testing.T) {
	for i, power := range wantBase() {
		var n [4]uint64
		n[i] = 1
		if got := Base().Times(n).Code(); got != power.Code() {
			t.Errorf("2^%d times B is %x, want %x", 64*i, got, power.Code())
		}
	}
}
