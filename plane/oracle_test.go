package plane_test

import (
	"math/big"

	"seamark/api"
)

// The oracle decides by rational arithmetic, and by other formulas than the package.

const most = api.MaxCoord

func at(x, y int) api.Point { return api.Point{X: x, Y: y} }

func rat(n int) *big.Rat { return new(big.Rat).SetInt64(int64(n)) }

func add(a, b *big.Rat) *big.Rat { return new(big.Rat).Add(a, b) }
func sub(a, b *big.Rat) *big.Rat { return new(big.Rat).Sub(a, b) }
func mul(a, b *big.Rat) *big.Rat { return new(big.Rat).Mul(a, b) }

// inUnit reports whether n is from 0 to 1.
func inUnit(n *big.Rat) bool { return n.Sign() >= 0 && n.Cmp(rat(1)) <= 0 }

// slope returns the cross product of the vectors from a to b and from c to d.
func slope(a, b, c, d api.Point) *big.Rat {
	return sub(mul(rat(b.X-a.X), rat(d.Y-c.Y)), mul(rat(b.Y-a.Y), rat(d.X-c.X)))
}

// square returns the square of the distance of a point and p.
func square(x, y *big.Rat, p api.Point) *big.Rat {
	dx, dy := sub(x, rat(p.X)), sub(y, rat(p.Y))
	return add(mul(dx, dx), mul(dy, dy))
}

// squareToSegment returns the square of the distance of p and the segment from a to b, by the foot of p.
func squareToSegment(p, a, b api.Point) *big.Rat {
	along := rat(0)
	if length := square(rat(a.X), rat(a.Y), b); length.Sign() > 0 {
		along = add(mul(rat(b.X-a.X), rat(p.X-a.X)), mul(rat(b.Y-a.Y), rat(p.Y-a.Y)))
		along.Quo(along, length)
	}
	if along.Sign() < 0 {
		along = rat(0)
	}
	if along.Cmp(rat(1)) > 0 {
		along = rat(1)
	}
	return square(add(rat(a.X), mul(along, rat(b.X-a.X))), add(rat(a.Y), mul(along, rat(b.Y-a.Y))), p)
}

// crossing reports whether the segments lie on lines that are not parallel, and have a common point.
func crossing(a, b, c, d api.Point) bool {
	n := slope(a, b, c, d)
	if n.Sign() == 0 {
		return false
	}
	n.Inv(n)
	return inUnit(mul(slope(a, c, c, d), n)) && inUnit(mul(slope(a, c, a, b), n))
}

// squareOfSegments returns the square of the distance of the segments.
func squareOfSegments(a, b, c, d api.Point) *big.Rat {
	if crossing(a, b, c, d) {
		return rat(0)
	}
	least := squareToSegment(a, c, d)
	for _, n := range []*big.Rat{squareToSegment(b, c, d), squareToSegment(c, a, b), squareToSegment(d, a, b)} {
		if n.Cmp(least) < 0 {
			least = n
		}
	}
	return least
}

// around returns the distances at which an answer about this square of a distance can change, and those beside them.
func around(square *big.Rat) []int {
	n := new(big.Int).Quo(square.Num(), square.Denom())
	root := int(n.Sqrt(n).Int64())
	var out []int
	for _, d := range []int{0, root - 1, root, root + 1, root + 2, api.MaxDist} {
		if 0 <= d && d <= api.MaxDist {
			out = append(out, d)
		}
	}
	return out
}

// small returns all places of a square of n places.
func small(n int) []api.Point {
	var out []api.Point
	for x := range n {
		for y := range n {
			out = append(out, at(x-n/2, y-n/2))
		}
	}
	return out
}

// wide returns places at the limits, near them, and elsewhere.
func wide() []api.Point {
	return []api.Point{
		at(-most, -most), at(most, most), at(most, -most), at(-most, most), at(most, most-1), at(1-most, -most),
		at(0, 0), at(0, 1), at(0, most), at(-most, 1), at(123457, -654323), at(-500000, -1000), at(499999, 1000),
	}
}

// some returns few places of both sorts.
func some() []api.Point {
	return append(small(3), at(-most, -most), at(most, most), at(most, most-1), at(-most, most), at(123457, -654323))
}

// eachTriple calls f for all triples of small places, and for those of wide ones.
func eachTriple(f func(a, b, c api.Point)) {
	for _, list := range [][]api.Point{small(4), wide()} {
		for _, a := range list {
			for _, b := range list {
				for _, c := range list {
					f(a, b, c)
				}
			}
		}
	}
}

// eachFour calls f for all quadruples of some places.
func eachFour(f func(a, b, c, d api.Point)) {
	list := some()
	for _, a := range list {
		for _, b := range list {
			for _, c := range list {
				for _, d := range list {
					f(a, b, c, d)
				}
			}
		}
	}
}
