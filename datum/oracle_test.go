package datum_test

import (
	"math/big"

	"seamark/api"
	"seamark/internal/expect"
)

// The oracle computes by fractions, with maps whose factors are not in millionths.

func rat(n int) *big.Rat { return new(big.Rat).SetInt64(int64(n)) }

func add(a, b *big.Rat) *big.Rat { return new(big.Rat).Add(a, b) }
func sub(a, b *big.Rat) *big.Rat { return new(big.Rat).Sub(a, b) }
func mul(a, b *big.Rat) *big.Rat { return new(big.Rat).Mul(a, b) }

// half is a half.
func half() *big.Rat { return big.NewRat(1, 2) }

// floor returns the greatest integer that is at most n. (Div of package big rounds down for a divisor that is positive.)
func floor(n *big.Rat) int {
	return int(new(big.Int).Div(n.Num(), n.Denom()).Int64())
}

// ceiling returns the least integer that is at least n.
func ceiling(n *big.Rat) int { return -floor(new(big.Rat).Neg(n)) }

// rounded returns the integer to which n is rounded.
func rounded(n *big.Rat) int { return floor(add(n, half())) }

// plot is a map with its two rows: factors of X and Y, and a shift.
type plot [2][3]*big.Rat

func plotOf(m api.Datum) plot {
	part := func(n int) *big.Rat { return big.NewRat(int64(n), million) }
	return plot{{part(m.A), part(m.B), rat(m.C)}, {part(m.D), part(m.E), rat(m.F)}}
}

// parts returns the factors of a map in millionths, rounded, with the greater sum of a row without signs.
func (p plot) parts() (m api.Datum, weight int) {
	part := func(n *big.Rat) int { return rounded(mul(n, rat(million))) }
	m = api.Datum{A: part(p[0][0]), B: part(p[0][1]), D: part(p[1][0]), E: part(p[1][1])}
	return m, weightOf(m)
}

// weightOf returns the greater sum of the factors of a row, without signs.
func weightOf(m api.Datum) int {
	abs := func(n int) int { return max(n, -n) }
	return max(abs(m.A)+abs(m.B), abs(m.D)+abs(m.E))
}

// of returns what the map makes of a point.
func (p plot) of(x, y *big.Rat) [2]*big.Rat {
	var out [2]*big.Rat
	for i, r := range p {
		out[i] = add(add(mul(r[0], x), mul(r[1], y)), r[2])
	}
	return out
}

// det returns the determinant.
func (p plot) det() *big.Rat { return sub(mul(p[0][0], p[1][1]), mul(p[0][1], p[1][0])) }

// inverse returns the map that leads back exactly, but for the shift, which it has not.
func (p plot) inverse() plot {
	by := new(big.Rat).Inv(p.det())
	less := new(big.Rat).Neg(by)
	return plot{{mul(p[1][1], by), mul(p[0][1], less), rat(0)}, {mul(p[1][0], less), mul(p[0][0], by), rat(0)}}
}

// isDatum reports whether m is valid.
func isDatum(m api.Datum) bool {
	up := func(limit int, l ...int) bool {
		for _, n := range l {
			if n < -limit || n > limit {
				return false
			}
		}
		return true
	}
	return up(api.MaxPart, m.A, m.B, m.D, m.E) && up(api.MaxMove, m.C, m.F) && m.Residue >= 0 && up(api.MaxResidue, m.Residue) &&
		plotOf(m).det().Cmp(big.NewRat(1, 4)) >= 0
}

// middle returns the middle of p.
func middle(m api.Datum, p api.Point) [2]*big.Rat { return plotOf(m).of(rat(p.X), rat(p.Y)) }

// nearEnough reports whether q differs from the middle by at most the residue.
func nearEnough(q api.Point, middle [2]*big.Rat, residue int) bool {
	for i, n := range []int{q.X, q.Y} {
		if far := sub(rat(n), middle[i]); far.Abs(far).Cmp(rat(residue)) > 0 {
			return false
		}
	}
	return true
}

// isBox reports whether b is valid.
func isBox(b api.Box) bool {
	return b.X.Lo <= b.X.Hi && b.Y.Lo <= b.Y.Hi && min(b.X.Lo, b.Y.Lo) >= -most && max(b.X.Hi, b.Y.Hi) <= most
}

// ends holds the least and the greatest one of some numbers.
type ends struct{ lo, hi *big.Rat }

func (e *ends) put(n *big.Rat) {
	if e.lo == nil || n.Cmp(e.lo) < 0 {
		e.lo = n
	}
	if e.hi == nil || n.Cmp(e.hi) > 0 {
		e.hi = n
	}
}

// outward returns the integers that enclose the numbers, with n more on both sides.
func (e ends) outward(n int) api.Span {
	return api.Span{Lo: floor(sub(e.lo, rat(n))), Hi: ceiling(add(e.hi, rat(n)))}
}

// inward returns the coordinates of places between the numbers.
func (e ends) inward() api.Span {
	return api.Span{Lo: max(-most, ceiling(e.lo)), Hi: min(most, floor(e.hi))}
}

// corners calls f for the corners of the spans.
func corners(x, y api.Span, f func(x, y *big.Rat)) {
	for _, a := range []int{x.Lo, x.Hi} {
		for _, b := range []int{y.Lo, y.Hi} {
			f(rat(a), rat(b))
		}
	}
}

// carried returns what Carry has to return.
func carried(m api.Datum, b api.Box) expect.Pair[api.Box] {
	var x, y ends
	corners(b.X, b.Y, func(a, b *big.Rat) {
		q := plotOf(m).of(a, b)
		x.put(q[0])
		y.put(q[1])
	})
	out := api.Box{X: x.outward(m.Residue), Y: y.outward(m.Residue)}
	if !isBox(out) {
		return expect.Fails[api.Box](api.ErrRange)
	}
	return expect.Result(out, api.OK)
}

// reach returns the box of the points that p may have, and whether it is valid.
func reach(m api.Datum, p api.Point) (api.Box, bool) {
	q := middle(m, p)
	b := api.Box{X: ends{q[0], q[0]}.outward(m.Residue), Y: ends{q[1], q[1]}.outward(m.Residue)}
	return b, isBox(b)
}

// led returns what Back has to return.
func led(m api.Datum, b api.Box) expect.Pair[api.Box] {
	back := plotOf(m).inverse()
	free := func(s api.Span, shift int) api.Span {
		return api.Span{Lo: s.Lo - shift - m.Residue, Hi: s.Hi - shift + m.Residue}
	}
	var x, y ends
	corners(free(b.X, m.C), free(b.Y, m.F), func(u, v *big.Rat) {
		p := back.of(u, v)
		x.put(p[0])
		y.put(p[1])
	})
	out := api.Box{X: x.inward(), Y: y.inward()}
	if !isBox(out) {
		return expect.Fails[api.Box](api.ErrNone)
	}
	return expect.Result(out, api.OK)
}

// weighed returns n times a number of millionths, rounded up.
func weighed(n, parts int) int {
	return ceiling(mul(rat(n), big.NewRat(int64(parts), million)))
}

// checked returns a datum, or ErrRange for one that is not valid.
func checked(m api.Datum) expect.Pair[api.Datum] {
	if !isDatum(m) {
		return expect.Fails[api.Datum](api.ErrRange)
	}
	return expect.Result(m, api.OK)
}

// joined returns what Then has to return.
func joined(m, n api.Datum) expect.Pair[api.Datum] {
	first, next := plotOf(m), plotOf(n)
	var factors plot
	for i, r := range next {
		for j := range 2 {
			factors[i][j] = add(mul(r[0], first[0][j]), mul(r[1], first[1][j]))
		}
	}
	out, _ := factors.parts()
	shift := next.of(rat(m.C), rat(m.F))
	out.C, out.F = rounded(shift[0]), rounded(shift[1])
	out.Residue = weighed(m.Residue, weightOf(n)) + n.Residue + 2
	return checked(out)
}

// undone returns what Undo has to return.
func undone(m api.Datum) expect.Pair[api.Datum] {
	out, weight := plotOf(m).inverse().parts()
	shift := plotOf(out).of(rat(-m.C), rat(-m.F))
	out.C, out.F = rounded(shift[0]), rounded(shift[1])
	out.Residue = weighed(m.Residue, weight+1) + 2
	return checked(out)
}
