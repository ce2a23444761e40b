package span_test

import (
	"math"
	"testing"

	"seamark/api"
	"seamark/internal/expect"
	"seamark/span"
)

// P2.1, B1: boxes are valid up to the limits of places, with the ends of both spans in order.
func TestValidBox(t *testing.T) {
	for _, b := range append(smallBoxes(), wideBoxes()...) {
		if !span.ValidBox(b) {
			t.Errorf("%v is not valid", b)
		}
	}
	for _, b := range notBoxes() {
		if span.ValidBox(b) {
			t.Errorf("%v is valid", b)
		}
	}
}

// P2.1: what is not valid is refused in every position, ahead of ErrRange and ErrNone.
func TestErrArgOfBoxes(t *testing.T) {
	refused := expect.Fails[api.Box](api.ErrArg)
	for _, bad := range notBoxes() {
		for _, good := range []api.Box{box(0, 0, 0, 0), box(-coord, coord, -coord, coord), box(coord, coord, coord, coord), bad} {
			if expect.Result(span.MeetBox(bad, good)) != refused || expect.Result(span.MeetBox(good, bad)) != refused {
				t.Errorf("MeetBox takes %v with %v", bad, good)
			}
			if expect.Result(span.JoinBox(bad, good)) != refused || expect.Result(span.JoinBox(good, bad)) != refused {
				t.Errorf("JoinBox takes %v with %v", bad, good)
			}
			if in, e := span.WithinBox(bad, good); in || e != api.ErrArg {
				t.Errorf("WithinBox of %v and %v: %v, %v", bad, good, in, e)
			}
			if in, e := span.WithinBox(good, bad); in || e != api.ErrArg {
				t.Errorf("WithinBox of %v and %v: %v, %v", good, bad, in, e)
			}
		}
		for _, n := range []int{0, 1, coord, api.MaxDist} {
			if got := expect.Result(span.GrowBox(bad, n)); got != refused {
				t.Errorf("GrowBox of %v by %d: %v", bad, n, got)
			}
		}
		if in, e := span.InBox(at(0, 0), bad); in || e != api.ErrArg {
			t.Errorf("InBox of %v: %v, %v", bad, in, e)
		}
	}
}

// P2.1, B7 and B8: places and growths are valid up to their limits, and not beyond them.
func TestErrArgOfPlacesAndGrowths(t *testing.T) {
	whole := box(-coord, coord, -coord, coord)
	for _, n := range []int{-coord - 1, coord + 1, math.MinInt, math.MaxInt} {
		for _, p := range []api.Point{at(n, 0), at(0, n), at(n, n)} {
			if in, e := span.InBox(p, whole); in || e != api.ErrArg {
				t.Errorf("InBox of %v: %v, %v", p, in, e)
			}
		}
	}
	for _, p := range []api.Point{at(-coord, -coord), at(coord, coord), at(-coord, coord), at(0, 0)} {
		if in, e := span.InBox(p, whole); !in || e != api.OK {
			t.Errorf("InBox of %v: %v, %v", p, in, e)
		}
	}
	for _, n := range []int{-1, api.MaxDist + 1, math.MinInt, math.MaxInt} {
		for _, b := range []api.Box{box(0, 0, 0, 0), whole} {
			if got := expect.Result(span.GrowBox(b, n)); got != expect.Fails[api.Box](api.ErrArg) {
				t.Errorf("GrowBox of %v by %d: %v", b, n, got)
			}
		}
	}
}

// P2.1, B8: a box grows on all four sides, up to the limits, and is out of its range one beyond them.
func TestGrowBoxAtTheLimits(t *testing.T) {
	for i, x := range []struct {
		b    api.Box
		n    int
		want expect.Pair[api.Box]
	}{
		{box(0, 0, 0, 0), coord, expect.Result(box(-coord, coord, -coord, coord), api.OK)},
		{box(0, 0, 0, 0), coord + 1, expect.Fails[api.Box](api.ErrRange)},
		{box(0, 0, 0, 0), api.MaxDist, expect.Fails[api.Box](api.ErrRange)},
		{box(1, 2, 3, 4), 0, expect.Result(box(1, 2, 3, 4), api.OK)},
		{box(1, 2, 3, 4), 10, expect.Result(box(-9, 12, -7, 14), api.OK)},
		{box(1, 2, 3, 4), coord - 4, expect.Result(box(5-coord, coord-2, 7-coord, coord), api.OK)},
		{box(-coord, 0, 0, 0), 1, expect.Fails[api.Box](api.ErrRange)},
		{box(0, coord, 0, 0), 1, expect.Fails[api.Box](api.ErrRange)},
		{box(0, 0, -coord, 0), 1, expect.Fails[api.Box](api.ErrRange)},
		{box(0, 0, 0, coord), 1, expect.Fails[api.Box](api.ErrRange)},
		{box(1-coord, 0, 0, coord-1), 1, expect.Result(box(-coord, 1, -1, coord), api.OK)},
	} {
		if got := expect.Result(span.GrowBox(x.b, x.n)); got != x.want {
			t.Errorf("limit %d: %v", i, got)
		}
	}
}

// P2.1, B7: boxes are met, joined and compared span by span.
func TestBoxesBySpans(t *testing.T) {
	eachPairOfBoxes(func(a, b api.Box) {
		x, noX := span.Meet(a.X, b.X)
		y, noY := span.Meet(a.Y, b.Y)
		want := expect.Result(api.Box{X: x, Y: y}, api.OK)
		if noX != api.OK || noY != api.OK {
			want = expect.Fails[api.Box](api.ErrNone)
		}
		if got := expect.Result(span.MeetBox(a, b)); got != want {
			t.Errorf("MeetBox of %v and %v: %v", a, b, got)
		}
		joined := api.Box{X: expect.OK[api.Span](t)(span.Join(a.X, b.X)), Y: expect.OK[api.Span](t)(span.Join(a.Y, b.Y))}
		if got := expect.Result(span.JoinBox(a, b)); got != expect.Result(joined, api.OK) {
			t.Errorf("JoinBox of %v and %v: %v", a, b, got)
		}
		all := expect.OK[bool](t)(span.Within(a.X, b.X)) && expect.OK[bool](t)(span.Within(a.Y, b.Y))
		if got := expect.OK[bool](t)(span.WithinBox(a, b)); got != all {
			t.Errorf("WithinBox of %v and %v: %v", a, b, got)
		}
	})
}
