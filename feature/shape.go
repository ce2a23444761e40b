package feature

import "seamark/api"

// shape is where a feature is.
type shape interface {
	// suits reports whether all fields of f, which has this shape, but its ID and Symbol are valid. The other methods are those of valid features.
	suits(f api.Feature) bool
	box() api.Box
	covers(p api.Point) bool
	holdsDisc(d disc) bool
	holdsPolygon(p polygon) bool
	touchesDisc(d disc) bool
	touchesPolygon(p polygon) bool
}

// shapeOf returns the shape of f, and whether f is valid.
func shapeOf(f api.Feature) (shape, bool) {
	var s shape
	switch f.Kind {
	case api.KindSounding, api.KindWreck, api.KindBuoy:
		s = disc{f.At, f.Radius}
	case api.KindArea, api.KindZone:
		s = polygon(f.Area)
	case api.KindLight:
		s = light{f.At, f.Sectors}
	default:
		return nil, false
	}
	return s, between(f.ID, 1, api.MaxID) && between(f.Symbol, 0, api.MaxSymbol) && s.suits(f)
}

// shapesOf returns the shapes of a list of features, and whether the list is valid.
func shapesOf(list []api.Feature) ([]shape, bool) {
	if len(list) > api.MaxFeatures {
		return nil, false
	}
	shapes := make([]shape, len(list))
	for i, f := range list {
		s, ok := shapeOf(f)
		if !ok || i > 0 && f.ID <= list[i-1].ID {
			return nil, false
		}
		shapes[i] = s
	}
	return shapes, true
}

// holds reports whether s covers all points that t covers.
func holds(s, t shape) bool {
	switch inner := t.(type) {
	case disc:
		return s.holdsDisc(inner)
	case polygon:
		return s.holdsPolygon(inner)
	}
	return true // a light covers nothing
}

// touch reports whether s and t cover a common point.
func touch(s, t shape) bool {
	switch other := t.(type) {
	case disc:
		return s.touchesDisc(other)
	case polygon:
		return s.touchesPolygon(other)
	}
	return false // a light covers nothing
}

// between reports whether n is from least to most.
func between(n, least, most int) bool {
	return least <= n && n <= most
}
