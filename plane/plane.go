// Package plane is layer 1: it decides exactly how places and segments of the plane lie to each other.
// See shared/doc/01-plane.md.
package plane

import "seamark/api"

// Valid reports whether p is a valid place.
func Valid(p api.Point) bool {
	return -api.MaxCoord <= p.X && p.X <= api.MaxCoord && -api.MaxCoord <= p.Y && p.Y <= api.MaxCoord
}

// Turn returns 1, 0 or -1, if the way from a by b to c turns left, not at all, or right.
func Turn(a, b, c api.Point) (int, api.Errno) {
	if !allValid(a, b, c) {
		return 0, api.ErrArg
	}
	return turn(a, b, c), api.OK
}

// On reports whether p lies on the segment from a to b.
func On(p, a, b api.Point) (bool, api.Errno) {
	if !allValid(p, a, b) {
		return false, api.ErrArg
	}
	return on(p, segment{a, b}), api.OK
}

// Meet reports whether the segments from a to b and from c to d have a common point.
func Meet(a, b, c, d api.Point) (bool, api.Errno) {
	if !allValid(a, b, c, d) {
		return false, api.ErrArg
	}
	return meet(segment{a, b}, segment{c, d}), api.OK
}

// Near reports whether the distance of p and the segment from a to b is at most d.
func Near(p, a, b api.Point, d int) (bool, api.Errno) {
	if !allValid(p, a, b) || !validDist(d) {
		return false, api.ErrArg
	}
	return compareDist(p, segment{a, b}, d) <= 0, api.OK
}

// Apart reports whether the distance of p and the segment from a to b is at least d.
func Apart(p, a, b api.Point, d int) (bool, api.Errno) {
	if !allValid(p, a, b) || !validDist(d) {
		return false, api.ErrArg
	}
	return compareDist(p, segment{a, b}, d) >= 0, api.OK
}

// Close reports whether the distance of the segments from a to b and from c to d is at most r.
func Close(a, b, c, d api.Point, r int) (bool, api.Errno) {
	if !allValid(a, b, c, d) || !validDist(r) {
		return false, api.ErrArg
	}
	s, t := segment{a, b}, segment{c, d}
	// Segments that do not meet are nearest to each other at an end of one of them.
	return meet(s, t) || anyEnd(s, t, func(end api.Point, other segment) bool {
		return compareDist(end, other, r) <= 0
	}), api.OK
}

// Dist returns the distance of a and b, rounded down and up.
func Dist(a, b api.Point) (api.Span, api.Errno) {
	if !allValid(a, b) {
		return api.Span{}, api.ErrArg
	}
	n := squareDist(a, b)
	down := root(n)
	if down*down == n {
		return api.Span{Lo: down, Hi: down}, api.OK
	}
	return api.Span{Lo: down, Hi: down + 1}, api.OK
}

// Lies reports whether the disc of the radius r about p lies within that of s about q.
func Lies(p api.Point, r int, q api.Point, s int) (bool, api.Errno) {
	if !allValid(p, q) || !validDist(r) || !validDist(s) {
		return false, api.ErrArg
	}
	room := s - r
	return room >= 0 && squareDist(p, q) <= room*room, api.OK
}

// allValid reports whether all places are valid.
func allValid(places ...api.Point) bool {
	for _, p := range places {
		if !Valid(p) {
			return false
		}
	}
	return true
}

// validDist reports whether d is a valid radius or distance.
func validDist(d int) bool {
	return 0 <= d && d <= api.MaxDist
}
