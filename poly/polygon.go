package poly

import (
	"iter"
	"slices"

	"seamark/api"
	"seamark/plane"
)

// minCorners is the least number of corners of a polygon.
const minCorners = 3

// polygon is the corners of a polygon. Valid asks its methods up to area; all others are those of a valid one.
type polygon []api.Point

// edges yields both ends of each edge.
func (p polygon) edges() iter.Seq2[api.Point, api.Point] {
	return func(yield func(from, to api.Point) bool) {
		for i, from := range p {
			if !yield(from, p[(i+1)%len(p)]) {
				return
			}
		}
	}
}

// beginsLeast reports whether the first corner is the least one.
func (p polygon) beginsLeast() bool {
	return slices.MinFunc(p, order(rising)) == p[0]
}

// bends reports whether no three neighbouring corners lie on a line.
func (p polygon) bends() bool {
	for i, corner := range p {
		before, after := p.neighbours(i)
		if turn(before, corner, after) == 0 {
			return false
		}
	}
	return true
}

// isSimple reports whether edges that are not neighbours have no common point.
func (p polygon) isSimple() bool {
	for i := range p {
		for j := i + 2; j < len(p); j++ {
			next := (j + 1) % len(p)
			if next != i && meet(p[i], p[i+1], p[j], p[next]) {
				return false
			}
		}
	}
	return true
}

// neighbours returns the corners before and after the one with the index i.
func (p polygon) neighbours(i int) (before, after api.Point) {
	return p[(i+len(p)-1)%len(p)], p[(i+1)%len(p)]
}

// area returns twice the area; it is negative if the corners go round clockwise.
func (p polygon) area() int {
	sum := 0
	for from, to := range p.edges() {
		sum += from.X*to.Y - from.Y*to.X
	}
	return sum
}

// side returns 1, 0 or -1, if q is inside, on the border of, or outside of p.
func (p polygon) side(q api.Point) int {
	side := -1
	for from, to := range p.edges() {
		if on(q, from, to) {
			return 0
		}
		if passesEast(q, from, to) {
			side = -side
		}
	}
	return side
}

// lacks reports whether q is outside of p.
func (p polygon) lacks(q api.Point) bool {
	return p.side(q) < 0
}

// touches reports whether p and q have a common point.
func (p polygon) touches(q polygon) bool {
	for a, b := range p.edges() {
		for c, d := range q.edges() {
			if meet(a, b, c, d) {
				return true
			}
		}
	}
	// Polygons whose edges do not meet lie apart, or one of them lies in the other one with all of its corners.
	return !p.lacks(q[0]) || !q.lacks(p[0])
}

// holds reports whether all of q is in p. A polygon has no holes: this is so if all edges of q are in p.
func (p polygon) holds(q polygon) bool {
	if slices.ContainsFunc(q, p.lacks) {
		return false
	}
	for from, to := range q.edges() {
		if !p.holdsWay(from, to) {
			return false
		}
	}
	return true
}

// holdsWay reports whether the segment between two different places of p is in p.
// If it crosses no edge of p, it can leave p only where it begins, or at a corner of p.
func (p polygon) holdsWay(from, to api.Point) bool {
	for corner, next := range p.edges() {
		if cross(from, to, corner, next) {
			return false
		}
		if corner != to && on(corner, from, to) && !p.leads(corner, to) {
			return false
		}
	}
	return p.leads(from, to)
}

// leads reports whether the way from a place of p to another place begins in p.
func (p polygon) leads(from, to api.Point) bool {
	for i, corner := range p {
		before, after := p.neighbours(i)
		if from == after || !on(from, corner, after) {
			continue
		}
		if from != corner {
			before = corner
		}
		return inAngle(before, from, after, to)
	}
	return true // from is inside
}

// disc returns 1 if the disc of the radius r about q is in p, -1 if both have no common point, and 0 otherwise.
func (p polygon) disc(q api.Point, r int) int {
	outside := p.lacks(q)
	for from, to := range p.edges() {
		near, _ := plane.Near(q, from, to, r)
		apart, _ := plane.Apart(q, from, to, r)
		// An edge that the disc only just reaches matters if it is reached from outside.
		if !apart || outside && near {
			return 0
		}
	}
	if outside {
		return -1
	}
	return 1
}
