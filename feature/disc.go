package feature

import (
	"slices"

	"seamark/api"
	"seamark/plane"
)

// disc is all points that are at most radius from at.
type disc struct {
	at     api.Point
	radius int
}

func (d disc) suits(f api.Feature) bool {
	return between(d.radius, 0, api.MaxRadius) && d.isWithinLimits() && between(f.Depth, 0, api.MaxDepth) &&
		len(f.Area) == 0 && len(f.Sectors) == 0
}

// isWithinLimits reports whether the corners of the disc's box are places; then its middle is one, too.
func (d disc) isWithinLimits() bool {
	b := d.box()
	return plane.Valid(api.Point{X: b.X.Lo, Y: b.Y.Lo}) && plane.Valid(api.Point{X: b.X.Hi, Y: b.Y.Hi})
}

func (d disc) box() api.Box {
	return api.Box{
		X: api.Span{Lo: d.at.X - d.radius, Hi: d.at.X + d.radius},
		Y: api.Span{Lo: d.at.Y - d.radius, Hi: d.at.Y + d.radius},
	}
}

func (d disc) covers(p api.Point) bool {
	return d.reaches(p, 0)
}

func (d disc) holdsDisc(inner disc) bool {
	lies, _ := plane.Lies(inner.at, inner.radius, d.at, d.radius)
	return lies
}

func (d disc) holdsPolygon(p polygon) bool {
	// No point of a polygon is farther away than its farthest corner.
	return !slices.ContainsFunc(p, func(corner api.Point) bool { return !d.covers(corner) })
}

func (d disc) touchesDisc(other disc) bool {
	return d.reaches(other.at, other.radius)
}

func (d disc) touchesPolygon(p polygon) bool {
	return p.touchesDisc(d)
}

// reaches reports whether d has a point that is at most dist from p.
func (d disc) reaches(p api.Point, dist int) bool {
	near, _ := plane.Near(p, d.at, d.at, d.radius+dist)
	return near
}
