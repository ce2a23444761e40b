package feature

import (
	"seamark/api"
	"seamark/poly"
)

// polygon is the corners of a polygon.
type polygon []api.Point

func (p polygon) suits(f api.Feature) bool {
	deepest := api.MaxDepth
	if f.Kind == api.KindZone {
		deepest = 0
	}
	return poly.Valid(p) && between(f.Depth, 0, deepest) && f.At == (api.Point{}) && f.Radius == 0 && len(f.Sectors) == 0
}

func (p polygon) box() api.Box {
	b, _ := poly.Box(p)
	return b
}

func (p polygon) covers(q api.Point) bool {
	side, _ := poly.In(q, p)
	return side >= 0
}

func (p polygon) holdsDisc(d disc) bool {
	lies, _ := poly.Disc(p, d.at, d.radius)
	return lies > 0
}

func (p polygon) holdsPolygon(inner polygon) bool {
	held, _ := poly.Holds(p, inner)
	return held
}

func (p polygon) touchesDisc(d disc) bool {
	lies, _ := poly.Disc(p, d.at, d.radius)
	return lies >= 0
}

func (p polygon) touchesPolygon(other polygon) bool {
	touching, _ := poly.Touch(p, other)
	return touching
}
