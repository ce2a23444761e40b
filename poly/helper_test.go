package poly_test

import (
	"cmp"
	"math/rand/v2"
	"slices"

	"seamark/api"
	"seamark/internal/sample"
)

const most = api.MaxCoord

func at(x, y int) api.Point { return api.Point{X: x, Y: y} }

// path returns places of coordinates.
func path(l ...int) []api.Point {
	var out []api.Point
	for i := 0; i+1 < len(l); i += 2 {
		out = append(out, at(l[i], l[i+1]))
	}
	return out
}

func box(a, b, c, d int) api.Box {
	return api.Box{X: api.Span{Lo: a, Hi: b}, Y: api.Span{Lo: c, Hi: d}}
}

// bent is the polygon L of the chapter; whole has all places.
func bent() []api.Point  { return path(0, 0, 4, 0, 4, 2, 2, 2, 2, 4, 0, 4) }
func whole() []api.Point { return path(-most, -most, most, -most, most, most, -most, most) }

func byPlace(a, b api.Point) int { return cmp.Or(cmp.Compare(a.X, b.X), cmp.Compare(a.Y, b.Y)) }

// fromLeast returns the corners from the least one on, in the same turn.
func fromLeast(p []api.Point) []api.Point {
	i := slices.Index(p, slices.MinFunc(p, byPlace))
	return slices.Concat(p[i:], p[:i])
}

// counter returns the corners counterclockwise, from the least one on.
func counter(p []api.Point) []api.Point {
	p = slices.Clone(p)
	if trapezoids(p) < 0 {
		slices.Reverse(p)
	}
	return fromLeast(p)
}

// without returns the corners but the one with the index i, from the least one on.
func without(p []api.Point, i int) []api.Point {
	return fromLeast(slices.Concat(p[:i], p[i+1:]))
}

// square returns all places with coordinates from lo to hi.
func square(lo, hi int) []api.Point {
	var out []api.Point
	for x := lo; x <= hi; x++ {
		for y := lo; y <= hi; y++ {
			out = append(out, at(x, y))
		}
	}
	return out
}

// eachList calls f for all lists of n places. The list is f's until it returns.
func eachList(n int, places []api.Point, f func(list []api.Point)) {
	list := make([]api.Point, 0, n)
	var fill func()
	fill = func() {
		if len(list) == n {
			f(list)
			return
		}
		for _, p := range places {
			list = append(list, p)
			fill()
			list = list[:len(list)-1]
		}
	}
	fill()
}

// polygonsOf returns all polygons of n corners among these places.
func polygonsOf(n int, places []api.Point) [][]api.Point {
	var out [][]api.Point
	eachList(n, places, func(list []api.Point) {
		if isPolygon(list) {
			out = append(out, slices.Clone(list))
		}
	})
	return out
}

// grown returns a polygon with at most n corners, to which places were added as long as it stayed a polygon.
func grown(r *rand.Rand, n int, place func() api.Point) []api.Point {
	var p []api.Point
	for try := 0; try < 30*n && len(p) < n; try++ {
		next := []api.Point{place(), place(), place()}
		if p != nil {
			next = slices.Insert(slices.Clone(p), 1+r.IntN(len(p)), place())
		}
		if next = counter(next); isPolygon(next) {
			p = next
		}
	}
	return p
}

// chance returns numbers that are the same in each run.
func chance() *rand.Rand { return rand.New(rand.NewPCG(3, 8)) }

// smallPlace returns places with coordinates from 0 to 6, widePlace those at the limits, near them, and elsewhere.
func smallPlace(r *rand.Rand) func() api.Point {
	return func() api.Point { return at(r.IntN(7), r.IntN(7)) }
}

func widePlace(r *rand.Rand) func() api.Point {
	return func() api.Point { return at(sample.UpTo(r, most), sample.UpTo(r, most)) }
}

// shapes returns polygons of the same places, with few corners and with many, the greatest ones with 24.
func shapes(count int, place func(r *rand.Rand) func() api.Point) [][]api.Point {
	r := chance()
	out := make([][]api.Point, 0, count)
	for len(out) < count {
		if p := grown(r, 3+len(out)%22, place(r)); p != nil {
			out = append(out, p)
		}
	}
	return out
}

func smallShapes() [][]api.Point { return shapes(60, smallPlace) }
func wideShapes() [][]api.Point  { return append(shapes(60, widePlace), whole()) }

// tiny returns all polygons with three or four corners, and some of those with five, of a square of nine places.
func tiny() [][]api.Point {
	out := append(polygonsOf(3, square(0, 2)), polygonsOf(4, square(0, 2))...)
	for i, p := range polygonsOf(5, square(0, 2)) {
		if i%4 == 0 {
			out = append(out, p)
		}
	}
	return out
}

// moved returns the polygon x farther to the east and y farther to the north.
func moved(p []api.Point, x, y int) []api.Point {
	var out []api.Point
	for _, corner := range p {
		out = append(out, at(corner.X+x, corner.Y+y))
	}
	return out
}

// eachPair calls f for pairs of tiny polygons, of tiny ones beside each other, of small ones, and of wide ones.
func eachPair(f func(p, q []api.Point)) {
	for i, p := range tiny() {
		for j, q := range tiny() {
			if (i+j)%11 == 0 || i == j {
				f(p, q)
				f(p, moved(q, 1+i%2, j%3))
			}
		}
	}
	for _, list := range [][][]api.Point{smallShapes(), wideShapes()} {
		for _, p := range list {
			for _, q := range list {
				f(p, q)
			}
		}
	}
}

// isSmall reports whether all coordinates are from 0 to 6.
func isSmall(p []api.Point) bool {
	return !slices.ContainsFunc(p, func(q api.Point) bool { return min(q.X, q.Y) < 0 || max(q.X, q.Y) > 6 })
}

// eachShape calls f for polygons, and for places in them, at their borders, and around them.
func eachShape(f func(p, places []api.Point)) {
	r := chance()
	for _, p := range tiny() {
		f(p, square(-1, 3))
	}
	for _, p := range smallShapes() {
		f(p, square(-1, 7))
	}
	for _, p := range wideShapes() {
		places := slices.Clone(p)
		for range 20 {
			places = append(places, widePlace(r)())
		}
		for i, a := range p {
			b := p[(i+1)%len(p)]
			places = append(places, at((a.X+b.X)/2, (a.Y+b.Y)/2))
		}
		f(p, places)
	}
}

// notPlaces returns places that are not valid.
func notPlaces() []api.Point {
	var out []api.Point
	for _, n := range sample.Beyond(most) {
		out = append(out, at(n, 0), at(0, n), at(n, n))
	}
	return out
}

// round returns n corners of a convex polygon.
func round(n int) []api.Point {
	var out []api.Point
	for x := range n {
		out = append(out, at(x, x*x))
	}
	return out
}

// notPolygons returns lists of places that are no valid polygons.
func notPolygons() [][]api.Point {
	out := [][]api.Point{
		nil, {}, path(0, 0), path(0, 0, 1, 0), path(0, 0, 0, 0, 0, 0), path(0, 0, 1, 1, 2, 2),
		path(0, 0, 0, 1, 1, 0),                          // clockwise
		path(1, 0, 0, 1, 0, 0),                          // not from the least corner on
		path(0, 1, 0, 0, 1, 0),                          // not from the one with the least Y on
		path(0, 0, 2, 0, 4, 0, 0, 4),                    // three corners on a line
		path(0, 0, 4, 0, 4, 4, 2, 4, 0, 4),              // three corners on a line
		path(0, 0, 4, 0, 0, 4, 0, 2),                    // the last ones and the first one on a line
		path(0, 0, 4, 0, 2, 0, 2, 4),                    // an edge that goes back
		path(0, 0, 4, 0, 4, 0, 0, 4),                    // a corner twice
		path(0, 0, 4, 0, 0, 4, 0, 0),                    // the first corner twice
		path(0, 0, 4, 0, 4, 4, 2, 0, 0, 4),              // a corner on an edge
		path(0, 0, 4, 4, 4, 0, 0, 4),                    // edges that cross
		path(0, 0, 4, 0, 2, 2, 4, 4, 0, 4, 2, 2),        // corners that touch
		path(0, 0, 9, 0, 9, 9, 6, 0, 3, 0, 3, 9, 0, 9),  // edges that run along one another
		path(0, 0, 5, 0, 3, 2, 1, -1, 4, 4, 2, 6, 0, 4), // a loop
		round(25),
		slices.Repeat(path(0, 0), 1000),
	}
	for _, p := range notPlaces() {
		out = append(out, append(path(0, 0, 1, 0), p), []api.Point{p, at(1, 0), at(0, 1)}, []api.Point{at(0, 0), p, at(0, 1)})
	}
	return out
}
