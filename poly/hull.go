package poly

import (
	"cmp"
	"slices"

	"seamark/api"
)

// maxPlaces is how many places can have a hull.
const maxPlaces = 200

// Ways to put places in order.
const (
	rising  = 1
	falling = -1
)

// order returns a comparison of places by X, and by Y where X is the same.
func order(way int) func(a, b api.Point) int {
	return func(a, b api.Point) int {
		return way * cmp.Or(cmp.Compare(a.X, b.X), cmp.Compare(a.Y, b.Y))
	}
}

// hull returns the corners of the hull of places, counterclockwise from the least one: fewer than three, if all places lie on a line.
func hull(list []api.Point) []api.Point {
	lower, upper := chain(list, rising), chain(list, falling)
	// Each chain ends where the other one begins.
	return slices.Concat(lower[:len(lower)-1], upper[:len(upper)-1])
}

// chain returns the way from the first one of the places in an order to the last one, on which all of them are on the left, and which turns left at each place.
func chain(list []api.Point, way int) []api.Point {
	var out []api.Point
	for _, p := range slices.SortedFunc(slices.Values(list), order(way)) {
		for len(out) > 1 && turn(out[len(out)-2], out[len(out)-1], p) <= 0 {
			out = out[:len(out)-1]
		}
		out = append(out, p)
	}
	return out
}
