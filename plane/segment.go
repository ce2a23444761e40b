package plane

import (
	"cmp"

	"seamark/api"
)

// segment is the two ends of a segment; they may be equal.
type segment [2]api.Point

// on reports whether p lies on s.
func on(p api.Point, s segment) bool {
	a, b := s[0], s[1]
	return turn(a, b, p) == 0 && between(p.X, a.X, b.X) && between(p.Y, a.Y, b.Y)
}

// meet reports whether s and t have a common point.
func meet(s, t segment) bool {
	return crosses(s, t) && crosses(t, s) || anyEnd(s, t, on)
}

// crosses reports whether the ends of t lie on different sides of the line through s, and neither on it.
func crosses(s, t segment) bool {
	return turn(s[0], s[1], t[0])*turn(s[0], s[1], t[1]) < 0
}

// anyEnd reports whether ask is true of an end of s or t and the other segment.
func anyEnd(s, t segment, ask func(end api.Point, other segment) bool) bool {
	for i := range s {
		if ask(s[i], t) || ask(t[i], s) {
			return true
		}
	}
	return false
}

// compareDist returns -1, 0 or 1, if the distance of p and s is less than d, d, or greater.
func compareDist(p api.Point, s segment, d int) int {
	a, b := s[0], s[1]
	along, length := dot(a, b, p), squareDist(a, b)
	switch {
	case a == b || along < 0:
		return cmp.Compare(squareDist(a, p), d*d)
	case along > length:
		return cmp.Compare(squareDist(b, p), d*d)
	}
	// The distance is |across| / root(length). Squared, and multiplied by length, it can have 86 bits.
	across := cross(a, b, p)
	if across < 0 {
		across = -across
	}
	return compareWords(product(across, across), product(d*d, length))
}
