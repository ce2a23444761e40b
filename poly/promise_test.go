package poly_test

import (
	"slices"
	"testing"

	"seamark/api"
	"seamark/internal/expect"
	"seamark/plane"
	"seamark/poly"
)

// P3.2: the area is positive; without a corner it is less by the triangle there, or greater if the polygon bends inward.
func TestAreaWithoutACorner(t *testing.T) {
	outward, inward := 0, 0
	for _, p := range slices.Concat(tiny(), smallShapes(), wideShapes()) {
		area := expect.OK[int](t)(poly.Area(p))
		if area <= 0 {
			t.Errorf("Area of %v: %d", p, area)
		}
		for i, corner := range p {
			less := without(p, i)
			if !poly.Valid(less) {
				continue
			}
			before, after := p[(i+len(p)-1)%len(p)], p[(i+1)%len(p)]
			triangle := expect.OK[int](t)(poly.Area(counter([]api.Point{before, corner, after})))
			if expect.OK[int](t)(plane.Turn(before, corner, after)) > 0 {
				outward++
			} else {
				inward++
				triangle = -triangle
			}
			if without := expect.OK[int](t)(poly.Area(less)); without != area-triangle {
				t.Errorf("Area of %v without %v: %d", p, corner, without)
			}
		}
	}
	if outward < 100 || inward < 100 {
		t.Errorf("only %d corners bend outward, and %d inward", outward, inward)
	}
}

// anyEdge reports whether ask is true of an edge of p.
func anyEdge(p []api.Point, ask func(a, b api.Point) bool) bool {
	for i, a := range p {
		if ask(a, p[(i+1)%len(p)]) {
			return true
		}
	}
	return false
}

// P3.3: a place is on the border exactly if it is on an edge; the way from a place inside to one outside meets an edge.
func TestInside(t *testing.T) {
	eachShape(func(p, places []api.Point) {
		var inside, outside []api.Point
		for _, q := range places {
			side := expect.OK[int](t)(poly.In(q, p))
			if on := anyEdge(p, func(a, b api.Point) bool { return expect.OK[bool](t)(plane.On(q, a, b)) }); on != (side == 0) {
				t.Errorf("In of %v and %v: %d", q, p, side)
			}
			if side > 0 {
				inside = append(inside, q)
			}
			if side < 0 {
				outside = append(outside, q)
			}
		}
		for i, a := range inside {
			for k, b := range outside {
				if (i+k)%3 > 0 {
					continue
				}
				if !anyEdge(p, func(c, d api.Point) bool { return expect.OK[bool](t)(plane.Meet(a, b, c, d)) }) {
					t.Errorf("the way from %v to %v meets no edge of %v", a, b, p)
				}
			}
		}
	})
}

// has reports whether q is a place of p.
func has(t *testing.T, p []api.Point, q api.Point) bool {
	t.Helper()
	return expect.OK[int](t)(poly.In(q, p)) >= 0
}

// some returns places of small polygons and around them, and the corners and middles of edges of wide ones.
func some(p, q []api.Point) []api.Point {
	if isSmall(p) && isSmall(q) {
		return square(0, 6)
	}
	return slices.Concat(p, q, path(0, 0, most, 0, -most/2, most/2))
}

// P3.4: polygons that have a common place touch, in either order; those that do not touch have none.
func TestTouch(t *testing.T) {
	eachPair(func(p, q []api.Point) {
		touch := expect.OK[bool](t)(poly.Touch(p, q))
		if expect.OK[bool](t)(poly.Touch(q, p)) != touch {
			t.Errorf("Touch of %v and %v depends on the order", p, q)
		}
		if touch {
			return
		}
		for _, z := range some(p, q) {
			if has(t, p, z) && has(t, q, z) {
				t.Errorf("%v and %v have %v, and do not touch", p, q, z)
			}
		}
	})
}

// P3.5: what is in a polygon has no place that this has not, and what that has is in this too; what hold each other are equal.
func TestHolds(t *testing.T) {
	holds := func(p, q []api.Point) bool { return expect.OK[bool](t)(poly.Holds(p, q)) }
	third := slices.Concat(tiny()[:40], smallShapes()[:20], wideShapes())
	chains := 0
	eachPair(func(p, q []api.Point) {
		if !holds(p, q) {
			if slices.Equal(p, q) {
				t.Errorf("%v does not hold itself", p)
			}
			return
		}
		if holds(q, p) && !slices.Equal(p, q) {
			t.Errorf("%v and %v hold each other", p, q)
		}
		for _, z := range some(p, q) {
			if has(t, q, z) && !has(t, p, z) {
				t.Errorf("%v holds %v, and has not %v", p, q, z)
			}
		}
		for _, r := range third {
			if holds(q, r) {
				chains++
				if !holds(p, r) {
					t.Errorf("%v holds %v, which holds %v", p, q, r)
				}
			}
		}
	})
	if chains < 100 {
		t.Errorf("only %d polygons are in others that are in others", chains)
	}
}

// P3.6: discs in polygons, and discs apart from them, have only places that are so, and so have the discs within them.
func TestDiscs(t *testing.T) {
	for _, p := range slices.Concat(tiny(), smallShapes()) {
		for i, q := range square(-1, 7) {
			for r := range 4 {
				disc := expect.OK[int](t)(poly.Disc(p, q, r))
				if (i+r)%3 > 0 || disc == 0 {
					continue
				}
				for _, z := range square(-1, 7) {
					if in := expect.OK[bool](t)(plane.Near(z, q, q, r)); in && has(t, p, z) != (disc > 0) {
						t.Errorf("Disc of %v about %v with %d: %d, and it has %v", p, q, r, disc, z)
					}
					for s := range r + 1 {
						if lies := expect.OK[bool](t)(plane.Lies(z, s, q, r)); lies && expect.OK[int](t)(poly.Disc(p, z, s)) != disc {
							t.Errorf("Disc of %v about %v with %d: %d, but not about %v with %d", p, q, r, disc, z, s)
						}
					}
				}
			}
		}
	}
	for _, p := range wideShapes() {
		for _, q := range slices.Concat(p, path(0, 0, most, 0, -most/2, most/2)) {
			for r := most; r > 0; r /= 7 {
				disc, lesser := expect.OK[int](t)(poly.Disc(p, q, r)), expect.OK[int](t)(poly.Disc(p, q, r/7))
				if disc != 0 && disc != lesser {
					t.Errorf("Disc of %v about %v with %d: %d, with %d: %d", p, q, r, disc, r/7, lesser)
				}
			}
		}
	}
}

// isConvex reports whether p turns left at each corner.
func isConvex(t *testing.T, p []api.Point) bool {
	t.Helper()
	for i, a := range p {
		if expect.OK[int](t)(plane.Turn(a, p[(i+1)%len(p)], p[(i+2)%len(p)])) <= 0 {
			return false
		}
	}
	return true
}

// P3.7: a hull is convex, its corners are some of the places, it has all of them, and convex polygons that have all of them hold it.
func TestHulls(t *testing.T) {
	convex := slices.DeleteFunc(slices.Concat(tiny(), smallShapes(), wideShapes()), func(p []api.Point) bool { return !isConvex(t, p) })
	hasAll := func(p, list []api.Point) bool {
		return !slices.ContainsFunc(list, func(z api.Point) bool { return !has(t, p, z) })
	}
	held := 0
	for _, list := range slices.Concat(tiny(), smallShapes(), wideShapes()) {
		hull := expect.OK[[]api.Point](t)(poly.Hull(list))
		if !poly.Valid(hull) || !isConvex(t, hull) {
			t.Errorf("Hull of %v: %v", list, hull)
			continue
		}
		for _, corner := range hull {
			if !slices.Contains(list, corner) {
				t.Errorf("%v is a corner of the hull of %v", corner, list)
			}
		}
		if !hasAll(hull, list) || !expect.OK[bool](t)(poly.Holds(hull, list)) {
			t.Errorf("Hull of %v has not all of it: %v", list, hull)
		}
		for _, p := range convex {
			if hasAll(p, list) {
				held++
				if !expect.OK[bool](t)(poly.Holds(p, hull)) {
					t.Errorf("%v has all of %v, and does not hold the hull", p, list)
				}
			}
		}
	}
	if held < 200 {
		t.Errorf("only %d hulls are held", held)
	}
}

// P3.8: the box has the least and greatest coordinates of the corners; its rectangle holds the polygon.
func TestBoxes(t *testing.T) {
	for _, p := range slices.Concat(tiny(), smallShapes(), wideShapes()) {
		var x, y []int
		for _, corner := range p {
			x, y = append(x, corner.X), append(y, corner.Y)
		}
		b := expect.OK[api.Box](t)(poly.Box(p))
		if b != box(slices.Min(x), slices.Max(x), slices.Min(y), slices.Max(y)) {
			t.Errorf("Box of %v: %v", p, b)
		}
		rect := expect.OK[[]api.Point](t)(poly.Rect(b))
		if !expect.OK[bool](t)(poly.Holds(rect, p)) {
			t.Errorf("Rect of the box of %v does not hold it: %v", p, rect)
		}
		if again := expect.OK[api.Box](t)(poly.Box(rect)); again != b {
			t.Errorf("Box of Rect of %v: %v", b, again)
		}
	}
}

// P3.1: no call changes its arguments.
func TestArgumentsStay(t *testing.T) {
	for _, p := range slices.Concat(tiny()[:20], smallShapes(), wideShapes()) {
		before, q := slices.Clone(p), slices.Clone(whole())
		poly.Valid(p)
		poly.In(at(1, 1), p)
		poly.Area(p)
		poly.Touch(p, q)
		poly.Touch(q, p)
		poly.Holds(p, q)
		poly.Holds(q, p)
		poly.Disc(p, at(1, 1), 2)
		poly.Box(p)
		if !slices.Equal(p, before) || !slices.Equal(q, whole()) {
			t.Errorf("%v was changed to %v, or the whole to %v", before, p, q)
		}
	}
}
