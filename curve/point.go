// Package curve: the points x, y of the field with -x^2 + y^2 = 1 + d x^2 y^2,
// their sums, and their codes.
package curve

import (
	"latch/field"
	"latch/number"
)

// Code is a point's code.
type Code [number.Size]byte

// Point is the point x / z, y / z, with xy / z beside it: so a sum takes no
// division. One point has many such fours; its code is what tells it.
type Point struct{ x, y, z, xy field.Element }

// oddBit is set in a code's last byte, if x is odd.
const oddBit = 0x80

var (
	one = field.Element{1}
	d   = field.Element{0x75eb4dca135978a3, 0x00700a4d4141d8ab, 0x8cc740797779e898, 0x52036cee2b6ffe73}
	// 2 d
	twoD = field.Element{0xebd69b9426b2f159, 0x00e0149a8283b156, 0x198e80f2eef3d130, 0x2406d9dc56dffce7}
)

// zero tells the point 0, 1.
func zero() Point { return Point{y: one, z: one} }

// Decode tells a code's point; false, if it is no point's code.
func Decode(code Code) (Point, bool) {
	odd := code[len(code)-1]&oddBit != 0
	code[len(code)-1] &^= oddBit
	y, ok := field.OfBytes(code)
	if !ok {
		return Point{}, false
	}
	x, ok := xOf(y, odd)
	if !ok {
		return Point{}, false
	}
	return Point{x: x, y: y, z: one, xy: x.Times(y)}, true
}

// xOf tells the x that is odd, or even, of a point of that y; false, if there
// is none. The square of x is (y^2 - 1) / (d y^2 + 1), and no y of the field
// makes the lower one 0.
func xOf(y field.Element, odd bool) (field.Element, bool) {
	square := y.Square()
	x, ok := field.RootOfRatio(square.Minus(one), square.Times(d).Plus(one))
	if !ok {
		return field.Element{}, false
	}
	if x.IsOdd() != odd {
		x = field.Element{}.Minus(x)
	}
	// 0 is its own opposite: no odd x is there.
	return x, x.IsOdd() == odd
}

// Code tells the point's code.
func (p Point) Code() Code {
	inverse := p.z.Inverse()
	code := Code(p.y.Times(inverse).Bytes())
	if p.x.Times(inverse).IsOdd() {
		code[len(code)-1] |= oddBit
	}
	return code
}

// Add tells the sum of two points. These are the document's sums, brought to
// one denominator (Hisil, Wong, Carter, Dawson 2008); d is no square, so it is
// 0 at no pair of points.
func (p Point) Add(q Point) Point {
	a := p.y.Minus(p.x).Times(q.y.Minus(q.x))
	b := p.y.Plus(p.x).Times(q.y.Plus(q.x))
	c := p.xy.Times(twoD).Times(q.xy)
	zz := p.z.Times(q.z)
	return fromParts(b.Minus(a), zz.Plus(zz).Minus(c), zz.Plus(zz).Plus(c), b.Plus(a))
}

// Opposite tells the point whose sum with p is the zero.
func (p Point) Opposite() Point {
	var nought field.Element
	return Point{x: nought.Minus(p.x), y: p.y, z: p.z, xy: nought.Minus(p.xy)}
}

// Double tells the sum of a point and itself, for less work than Add.
func (p Point) Double() Point {
	xx, yy, zz := p.x.Square(), p.y.Square(), p.z.Square()
	sum := xx.Plus(yy)
	difference := yy.Minus(xx)
	cross := p.x.Plus(p.y).Square().Minus(sum)
	return fromParts(cross, zz.Plus(zz).Minus(difference), difference, sum)
}

// fromParts tells the point e / g, h / f.
func fromParts(e, f, g, h field.Element) Point {
	return Point{x: e.Times(f), y: g.Times(h), z: f.Times(g), xy: e.Times(h)}
}
