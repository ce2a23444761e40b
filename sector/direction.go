package sector

import (
	"cmp"

	"seamark/api"
)

// direction is the vector from the origin to another point.
type direction api.Point

// way returns the direction from a place to another one. Its coordinates may be greater than those of a valid direction.
func way(from, to api.Point) direction {
	return direction{X: to.X - from.X, Y: to.Y - from.Y}
}

// valid reports whether d is a valid direction.
func (d direction) valid() bool {
	return d != direction{} && between(d.X, -api.MaxDir, api.MaxDir) && between(d.Y, -api.MaxDir, api.MaxDir)
}

// compare returns -1, 0 or 1, if the angle of d is less than that of e, the same, or greater.
func (d direction) compare(e direction) int {
	return cmp.Or(cmp.Compare(d.half(), e.half()), cmp.Compare(e.cross(d), 0))
}

// half returns 0 for an angle that is less than half a turn, and 1 for others: the cross product alone does not tell opposite directions.
func (d direction) half() int {
	if d.Y > 0 || d.Y == 0 && d.X > 0 {
		return 0
	}
	return 1
}

// cross returns the cross product of d and e.
func (d direction) cross(e direction) int {
	return d.X*e.Y - d.Y*e.X
}

// least returns the direction alike d with the least integers.
func (d direction) least() direction {
	n := divisor(d.X, d.Y)
	return direction{X: d.X / n, Y: d.Y / n}
}

// divisor returns the greatest common divisor of m and n, which are not both 0.
func divisor(m, n int) int {
	for n != 0 {
		m, n = n, m%n
	}
	return max(m, -m)
}

// between reports whether n is from least to most.
func between(n, least, most int) bool {
	return least <= n && n <= most
}
