package datum

import (
	"seamark/api"
	"seamark/span"
)

const (
	// minDet is the least determinant of the factors of a valid datum.
	minDet = 250000000000
	// rounded is more than a place is moved by rounding the factors and the shifts of a map.
	rounded = 2
)

// affine is a map that is wrong by at most a residue.
type affine struct {
	rows
	residue int
}

// affineOf returns the map of m.
func affineOf(m api.Datum) affine {
	return affine{rows{row{m.A, m.B, m.C}, row{m.D, m.E, m.F}}, m.Residue}
}

// datum returns the datum of the map.
func (a affine) datum() api.Datum {
	return api.Datum{
		A: a.first.x, B: a.first.y, C: a.first.move,
		D: a.second.x, E: a.second.y, F: a.second.move,
		Residue: a.residue,
	}
}

// fits reports whether q may be the place of p.
func (a affine) fits(p, q api.Point) bool {
	x, y := both(a.rows, row.value, p)
	return within(q.X*million-x, a.residue*million) && within(q.Y*million-y, a.residue*million)
}

// carry returns a box that has all points which the places of b may have.
func (a affine) carry(b api.Box) (api.Box, api.Errno) {
	x, y := both(a.rows, row.over, b)
	middles := api.Box{X: ways().outward(x, million), Y: ways().outward(y, million)}
	if !span.ValidBox(middles) {
		return api.Box{}, api.ErrRange
	}
	return span.GrowBox(middles, a.residue)
}

// back returns a box that has all places which may have a place of b.
func (a affine) back(b api.Box) (api.Box, api.Errno) {
	x, y := both(a.turned(), row.over, a.unshifted(b))
	return places(ways().inward(multiple(x, million), a.det()), ways().inward(multiple(y, million), a.det()))
}

// unshifted returns what the factors alone may make of places that have a place of b. It may be wider than a valid box.
func (a affine) unshifted(b api.Box) api.Box {
	c, f := both(a.rows, row.shift, a.residue)
	u, _ := span.Sub(b.X, c)
	v, _ := span.Sub(b.Y, f)
	return api.Box{X: u, Y: v}
}

// places returns the places with these coordinates, or ErrNone. A span may have its ends in the wrong order, which Meet refuses.
func places(x, y api.Span) (api.Box, api.Errno) {
	all := api.Span{Lo: -api.MaxCoord, Hi: api.MaxCoord}
	x, noX := span.Meet(x, all)
	y, noY := span.Meet(y, all)
	if noX != api.OK || noY != api.OK {
		return api.Box{}, api.ErrNone
	}
	return api.Box{X: x, Y: y}, api.OK
}

// then returns a map that allows whatever next allows after a.
func (a affine) then(next affine) affine {
	first, second := both(next.rows, row.after, a.rows)
	return affine{rows{first, second}, next.spread(a.residue, 0) + next.residue + rounded}
}

// undo returns a map that leads back.
func (a affine) undo() affine {
	first, second := both(a.turned(), row.undoing, a.rows)
	led := rows{first, second}
	// A rounded factor can be lighter by a half than the exact one: both of a row by one.
	return affine{led, led.spread(a.residue, 1) + rounded}
}
