package poly

import (
	"seamark/api"
	"seamark/plane"
)

// turn returns 1, 0 or -1, if the way from a by b to c turns left, not at all, or right. All places are valid.
func turn(a, b, c api.Point) int {
	n, _ := plane.Turn(a, b, c)
	return n
}

// on reports whether p lies on the segment from a to b. All places are valid.
func on(p, a, b api.Point) bool {
	is, _ := plane.On(p, a, b)
	return is
}

// meet reports whether the segments from a to b and from c to d have a common point. All places are valid.
func meet(a, b, c, d api.Point) bool {
	is, _ := plane.Meet(a, b, c, d)
	return is
}

// cross reports whether the segments from a to b and from c to d have a common point that is no end of them, and lie on different lines.
func cross(a, b, c, d api.Point) bool {
	return turn(a, b, c)*turn(a, b, d) < 0 && turn(c, d, a)*turn(c, d, b) < 0
}

// passesEast reports whether the segment from a to b passes q, which is not on it, to the east.
// Its upper end does not count, so that the way to the east from q does not meet two edges in their common corner.
func passesEast(q, a, b api.Point) bool {
	if a.Y > b.Y {
		a, b = b, a
	}
	return a.Y <= q.Y && q.Y < b.Y && turn(a, b, q) > 0
}

// inAngle reports whether the way from at to to begins on the left of the way from before by at to after, or on it.
func inAngle(before, at, after, to api.Point) bool {
	first, second := turn(before, at, to) >= 0, turn(at, after, to) >= 0
	if turn(before, at, after) < 0 {
		return first || second
	}
	return first && second
}
