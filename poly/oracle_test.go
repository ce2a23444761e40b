package poly_test

import (
	"math/big"
	"slices"

	"seamark/api"
)

// The oracle decides by other formulas than the package, and by rational numbers where these are needed.

func rat(n int) *big.Rat { return new(big.Rat).SetInt64(int64(n)) }

func add(a, b *big.Rat) *big.Rat { return new(big.Rat).Add(a, b) }
func sub(a, b *big.Rat) *big.Rat { return new(big.Rat).Sub(a, b) }
func mul(a, b *big.Rat) *big.Rat { return new(big.Rat).Mul(a, b) }

// across returns the cross product of the vectors from a to b and from c to d, and along returns their dot product.
func across(a, b, c, d api.Point) int { return (b.X-a.X)*(d.Y-c.Y) - (b.Y-a.Y)*(d.X-c.X) }
func along(a, b, c, d api.Point) int  { return (b.X-a.X)*(d.X-c.X) + (b.Y-a.Y)*(d.Y-c.Y) }

// share reports whether n / den is from 0 to 1.
func share(n, den int) bool {
	if den < 0 {
		n, den = -n, -den
	}
	return 0 <= n && n <= den
}

// overlap reports whether the numbers between a and b, and those between c and d, have one in common.
func overlap(a, b, c, d int) bool {
	return max(min(a, b), min(c, d)) <= min(max(a, b), max(c, d))
}

// common reports whether the segments from a to b and from c to d have a common point: a + s (b - a) = c + t (d - c).
func common(a, b, c, d api.Point) bool {
	den, s, t := across(a, b, c, d), across(a, c, c, d), across(a, c, a, b)
	if den != 0 {
		return share(s, den) && share(t, den)
	}
	return s == 0 && t == 0 && overlap(a.X, b.X, c.X, d.X) && overlap(a.Y, b.Y, c.Y, d.Y)
}

// trapezoids returns twice the area, summed up between the edges and the line Y = 0.
func trapezoids(p []api.Point) int {
	sum := 0
	for i, a := range p {
		b := p[(i+1)%len(p)]
		sum += (a.X - b.X) * (a.Y + b.Y)
	}
	return sum
}

// isPolygon reports whether valid places are a valid polygon.
func isPolygon(p []api.Point) bool {
	n := len(p)
	if n < 3 || n > 24 {
		return false
	}
	for i := range p {
		if across(p[i], p[(i+1)%n], p[(i+1)%n], p[(i+2)%n]) == 0 {
			return false
		}
		if i > 0 && (p[i].X < p[0].X || p[i].X == p[0].X && p[i].Y <= p[0].Y) {
			return false
		}
		for j := range p {
			apart := (i-j+n)%n > 1 && (j-i+n)%n > 1
			if apart && common(p[i], p[(i+1)%n], p[j], p[(j+1)%n]) {
				return false
			}
		}
	}
	return trapezoids(p) > 0
}

// point is a point of the plane.
type point struct{ x, y *big.Rat }

func exact(p api.Point) point { return point{rat(p.X), rat(p.Y)} }

// amid reports whether n is from the least one of a and b to the greatest one.
func amid(n *big.Rat, a, b int) bool {
	return n.Cmp(rat(min(a, b))) >= 0 && n.Cmp(rat(max(a, b))) <= 0
}

// sideOf returns 1, 0 or -1, if z is inside, on the border of, or outside of p: by the edges that lie north of z.
func sideOf(z point, p []api.Point) int {
	side := -1
	for i, a := range p {
		b := p[(i+1)%len(p)]
		if !amid(z.x, a.X, b.X) {
			continue
		}
		if a.X == b.X {
			if z.x.Cmp(rat(a.X)) == 0 && amid(z.y, a.Y, b.Y) {
				return 0
			}
			continue
		}
		y := mul(rat(b.Y-a.Y), sub(z.x, rat(a.X)))
		y.Quo(y, rat(b.X-a.X))
		over := add(y, rat(a.Y)).Cmp(z.y)
		if over == 0 {
			return 0
		}
		// of edges with a common corner, those count that end there from the east
		if over > 0 && z.x.Cmp(rat(max(a.X, b.X))) < 0 {
			side = -side
		}
	}
	return side
}

// cuts returns at which shares of the way from a to b it begins, ends, meets an edge of p, or begins or ends to run along one.
func cuts(a, b api.Point, p []api.Point) []*big.Rat {
	out := []*big.Rat{rat(0), rat(1)}
	for i, c := range p {
		d := p[(i+1)%len(p)]
		if !common(a, b, c, d) {
			continue
		}
		if den := across(a, b, c, d); den != 0 {
			out = append(out, big.NewRat(int64(across(a, c, c, d)), int64(den)))
			continue
		}
		for _, end := range []api.Point{c, d} {
			if n := along(a, end, a, b); share(n, along(a, b, a, b)) {
				out = append(out, big.NewRat(int64(n), int64(along(a, b, a, b))))
			}
		}
	}
	slices.SortFunc(out, func(m, n *big.Rat) int { return m.Cmp(n) })
	return out
}

// holdsAll reports whether p has all of q: each corner of q, and the middle between any two points where an edge of q meets the border of p.
func holdsAll(p, q []api.Point) bool {
	for _, corner := range q {
		if sideOf(exact(corner), p) < 0 {
			return false
		}
	}
	for i, a := range q {
		b := q[(i+1)%len(q)]
		list := cuts(a, b, p)
		for k := range list[1:] {
			half := mul(add(list[k], list[k+1]), big.NewRat(1, 2))
			middle := point{add(rat(a.X), mul(half, rat(b.X-a.X))), add(rat(a.Y), mul(half, rat(b.Y-a.Y)))}
			if sideOf(middle, p) < 0 {
				return false
			}
		}
	}
	return true
}

// touchAny reports whether p and q have a common point: a corner of one of them, or one of two edges.
func touchAny(p, q []api.Point) bool {
	for i, a := range p {
		for j, c := range q {
			if common(a, p[(i+1)%len(p)], c, q[(j+1)%len(q)]) {
				return true
			}
		}
	}
	in := func(list, p []api.Point) bool {
		return slices.ContainsFunc(list, func(corner api.Point) bool { return sideOf(exact(corner), p) >= 0 })
	}
	return in(p, q) || in(q, p)
}

// squareTo returns the square of the distance of q and the border of p.
func squareTo(q api.Point, p []api.Point) *big.Rat {
	var least *big.Rat
	for i, a := range p {
		b := p[(i+1)%len(p)]
		n := big.NewInt(int64(across(a, b, a, q)))
		square := new(big.Rat).SetFrac(n.Mul(n, n), big.NewInt(int64(along(a, b, a, b))))
		if foot := along(a, b, a, q); foot <= 0 {
			square = rat(along(a, q, a, q))
		} else if foot >= along(a, b, a, b) {
			square = rat(along(b, q, b, q))
		}
		if least == nil || square.Cmp(least) < 0 {
			least = square
		}
	}
	return least
}

// discOf returns what Disc has to return.
func discOf(p []api.Point, q api.Point, r int) int {
	side, sign := sideOf(exact(q), p), squareTo(q, p).Cmp(mul(rat(r), rat(r)))
	switch {
	case side >= 0 && sign >= 0:
		return 1
	case side < 0 && sign > 0:
		return -1
	}
	return 0
}

// hullOf returns the corners of the hull, by its edges: the segments between places that have all other places on their left, or on them.
func hullOf(list []api.Point) []api.Point {
	next := map[api.Point]api.Point{}
	for _, a := range list {
		for _, b := range list {
			all := a != b
			for _, c := range list {
				turn := across(a, b, a, c)
				all = all && (turn > 0 || turn == 0 && along(c, a, c, b) <= 0)
			}
			if all {
				next[a] = b
			}
		}
	}
	var out []api.Point
	for at := slices.MinFunc(list, byPlace); len(next) > 0; at = next[at] {
		if len(out) > 0 && at == out[0] {
			break
		}
		out = append(out, at)
	}
	return out
}
