package feature_test

import (
	"cmp"
	"math/big"
	"slices"
	"testing"

	"seamark/api"
	"seamark/internal/expect"
	"seamark/poly"
	"seamark/sector"
)

// The oracle computes with distances and crossings itself, and looks at lights in the directions in which they change.
// What polygons say of polygons it takes from package poly.

// across returns the cross product of the vectors from a to b and from a to q, and along returns their dot product.
func across(a, b, q api.Point) int { return (b.X-a.X)*(q.Y-a.Y) - (b.Y-a.Y)*(q.X-a.X) }
func along(a, b, q api.Point) int  { return (b.X-a.X)*(q.X-a.X) + (b.Y-a.Y)*(q.Y-a.Y) }

// square returns the square of the distance of a and b.
func square(a, b api.Point) int { return along(a, b, b) }

// product returns the product of numbers of which it may take more than 64 bits.
func product(m, n int) *big.Int { return new(big.Int).Mul(big.NewInt(int64(m)), big.NewInt(int64(n))) }

// farther returns 1, 0 or -1, if q is farther than r from the segment from a to b, as far, or nearer.
func farther(q, a, b api.Point, r int) int {
	length, foot, side := square(a, b), along(a, b, q), across(a, b, q)
	switch {
	case foot <= 0:
		return cmp.Compare(square(a, q), r*r)
	case foot >= length:
		return cmp.Compare(square(b, q), r*r)
	}
	return product(side, side).Cmp(product(length, r*r))
}

// anyEdge reports whether ask is true of an edge of p.
func anyEdge(p []api.Point, ask func(a, b api.Point) bool) bool {
	for i, a := range p {
		if ask(a, p[(i+1)%len(p)]) {
			return true
		}
	}
	return false
}

// surrounds reports whether q is inside of p, or on its border: by the edges that are on it, or north of it.
func surrounds(p []api.Point, q api.Point) bool {
	inside := false
	on := anyEdge(p, func(a, b api.Point) bool {
		if a.X > b.X {
			a, b = b, a
		}
		if a.X <= q.X && q.X < b.X && across(a, b, q) < 0 {
			inside = !inside
		}
		return farther(q, a, b, 0) == 0
	})
	return on || inside
}

// covered reports whether f covers p.
func covered(f api.Feature, p api.Point) bool {
	switch {
	case isLight(f):
		return false
	case isDisc(f):
		return square(f.At, p) <= f.Radius*f.Radius
	}
	return surrounds(f.Area, p)
}

// discInside reports whether all of the disc d is in p, and discMeets whether some of it is.
func discInside(p []api.Point, d api.Feature) bool {
	return surrounds(p, d.At) && !anyEdge(p, func(a, b api.Point) bool { return farther(d.At, a, b, d.Radius) < 0 })
}

func discMeets(p []api.Point, d api.Feature) bool {
	return surrounds(p, d.At) || anyEdge(p, func(a, b api.Point) bool { return farther(d.At, a, b, d.Radius) <= 0 })
}

// held reports whether f covers all that g covers.
func held(t *testing.T, f, g api.Feature) bool {
	t.Helper()
	switch {
	case isLight(f) || isLight(g):
		return isLight(g)
	case isDisc(f) && isDisc(g):
		room := f.Radius - g.Radius
		return room >= 0 && square(f.At, g.At) <= room*room
	case isDisc(f):
		return !slices.ContainsFunc(g.Area, func(corner api.Point) bool { return square(f.At, corner) > f.Radius*f.Radius })
	case isDisc(g):
		return discInside(f.Area, g)
	}
	return expect.OK[bool](t)(poly.Holds(f.Area, g.Area))
}

// touching reports whether f and g cover a common point.
func touching(t *testing.T, f, g api.Feature) bool {
	t.Helper()
	switch {
	case isLight(f) || isLight(g):
		return false
	case isDisc(f) && isDisc(g):
		both := f.Radius + g.Radius
		return square(f.At, g.At) <= both*both
	case isDisc(f):
		return discMeets(g.Area, f)
	case isDisc(g):
		return discMeets(f.Area, g)
	}
	return expect.OK[bool](t)(poly.Touch(f.Area, g.Area))
}

// whiteAt returns how far a light is white in a direction.
func whiteAt(t *testing.T, f api.Feature, v api.Point) int {
	t.Helper()
	color, reach, e := sector.Color(f.Sectors, v)
	if e != api.OK {
		t.Fatalf("%v in the direction %v: %v", f, v, e)
	}
	if color != api.White {
		return 0
	}
	return reach
}

// standing reports whether g stands for f.
func standing(t *testing.T, f, g api.Feature) bool {
	t.Helper()
	if !isLight(f) {
		return held(t, g, f) && g.Depth <= f.Depth
	}
	if !isLight(g) || f.At != g.At {
		return false
	}
	for _, s := range slices.Concat(f.Sectors, g.Sectors) {
		if whiteAt(t, g, s.From) > whiteAt(t, f, s.From) || whiteAt(t, g, s.To) > whiteAt(t, f, s.To) {
			return false
		}
	}
	return true
}

// shownAt returns the shown depth of a list at p.
func shownAt(list []api.Feature, p api.Point) int {
	out := []int{deep}
	for _, f := range list {
		if covered(f, p) {
			out = append(out, f.Depth)
		}
	}
	return slices.Min(out)
}

// boxOf returns the box of f, by its ends.
func boxOf(f api.Feature) api.Box {
	var x, y []int
	for _, p := range ends(f) {
		x, y = append(x, p.X), append(y, p.Y)
	}
	return box(slices.Min(x), slices.Max(x), slices.Min(y), slices.Max(y))
}
