package feature

import (
	"seamark/api"
	"seamark/plane"
	"seamark/sector"
)

// light is where a light is, and what it shows; it covers nothing.
type light struct {
	at      api.Point
	sectors []api.Sector
}

func (l light) suits(f api.Feature) bool {
	return plane.Valid(l.at) && sector.Valid(l.sectors) && f.Radius == 0 && f.Depth == 0 && len(f.Area) == 0
}

func (l light) box() api.Box {
	return disc{at: l.at}.box()
}

func (l light) covers(api.Point) bool       { return false }
func (l light) holdsDisc(disc) bool         { return false }
func (l light) holdsPolygon(polygon) bool   { return false }
func (l light) touchesDisc(disc) bool       { return false }
func (l light) touchesPolygon(polygon) bool { return false }

// yieldsTo reports whether s is a light at the same place that does not look safer than l.
func (l light) yieldsTo(s shape) bool {
	other, ok := s.(light)
	if !ok || other.at != l.at {
		return false
	}
	safer, _ := sector.Safer(l.sectors, other.sectors)
	return !safer
}
