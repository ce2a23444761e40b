package plane

import (
	"cmp"
	"math/bits"
	"sort"

	"seamark/api"
)

// words is a number of up to 128 bits: its high word and its low one.
type words [2]uint64

// product returns m n, for m and n that are not negative.
func product(m, n int) words {
	high, low := bits.Mul64(uint64(m), uint64(n))
	return words{high, low}
}

// compareWords returns -1, 0 or 1, if m is less than n, equal to it, or greater.
func compareWords(m, n words) int {
	if m[0] != n[0] {
		return cmp.Compare(m[0], n[0])
	}
	return cmp.Compare(m[1], n[1])
}

// root returns the greatest integer whose square is at most n, for n up to the square of MaxDist.
func root(n int) int {
	return sort.Search(api.MaxDist, func(r int) bool { return (r+1)*(r+1) > n })
}

// cross returns the cross product of the vectors from a to b and from a to c.
func cross(a, b, c api.Point) int {
	return (b.X-a.X)*(c.Y-a.Y) - (b.Y-a.Y)*(c.X-a.X)
}

// dot returns the dot product of the vectors from a to b and from a to c.
func dot(a, b, c api.Point) int {
	return (b.X-a.X)*(c.X-a.X) + (b.Y-a.Y)*(c.Y-a.Y)
}

// turn returns the sign of the cross product.
func turn(a, b, c api.Point) int {
	return cmp.Compare(cross(a, b, c), 0)
}

// squareDist returns the square of the distance of a and b.
func squareDist(a, b api.Point) int {
	return dot(a, b, b)
}

// between reports whether n lies between the ends a and b, in whatever order these are.
func between(n, a, b int) bool {
	return min(a, b) <= n && n <= max(a, b)
}
