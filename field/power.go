package field

// Inverse tells 1 / a, and 0 of 0. It is a to the power p - 2, which is
// (2^250 - 1) 2^5 + 11.
func (a Element) Inverse() Element {
	eleven := a.Times(a.squared(1)).Times(a.squared(3))
	return a.longPower().squared(5).Times(eleven)
}

// RootOfRatio tells a number whose square is u / v; false, if there is none.
// v is not 0.
func RootOfRatio(u, v Element) (Element, bool) {
	cube := v.Square().Times(v)
	seventh := cube.Square().Times(v)
	// The square of this one, times v, is u times a number whose fourth power
	// is 1 (RFC 8032, 5.1.3); where that is neither 1 nor -1, there is no root.
	root := u.Times(cube).Times(u.Times(seventh).rootPower())
	square := root.Square().Times(v)
	if square == u {
		return root, true
	}
	if square == (Element{}).Minus(u) {
		return root.Times(rootOfMinusOne), true
	}
	return Element{}, false
}

// rootPower tells a to the power (p - 5) / 8, which is (2^250 - 1) 2^2 + 1.
func (a Element) rootPower() Element { return a.longPower().squared(2).Times(a) }

// longPower tells a to the power 2^250 - 1. The power 2^n - 1 (here upTo n),
// squared n times, times itself, is the power 2^2n - 1: few products lead there.
func (a Element) longPower() Element {
	upTo2 := a.squared(1).Times(a)
	upTo4 := upTo2.squared(2).Times(upTo2)
	upTo5 := upTo4.squared(1).Times(a)
	upTo10 := upTo5.squared(5).Times(upTo5)
	upTo20 := upTo10.squared(10).Times(upTo10)
	upTo40 := upTo20.squared(20).Times(upTo20)
	upTo50 := upTo40.squared(10).Times(upTo10)
	upTo100 := upTo50.squared(50).Times(upTo50)
	upTo200 := upTo100.squared(100).Times(upTo100)
	return upTo200.squared(50).Times(upTo50)
}

// squared tells a squared, the square squared, and so on, so many times.
func (a Element) squared(count int) Element {
	for range count {
		a = a.Square()
	}
	return a
}
