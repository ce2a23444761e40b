package plane_test

import (
	"math"
	"math/big"
	"testing"

	"seamark/api"
	"seamark/internal/expect"
	"seamark/internal/sample"
	"seamark/plane"
)

// P1.1: the examples of the chapter.
func TestExamples(t *testing.T) {
	for i, x := range []struct {
		got  func() (bool, api.Errno)
		want bool
	}{
		{func() (bool, api.Errno) { return plane.On(at(2, 1), at(0, 0), at(4, 2)) }, true},
		{func() (bool, api.Errno) { return plane.Meet(at(0, 0), at(4, 4), at(0, 4), at(4, 0)) }, true},
		{func() (bool, api.Errno) { return plane.Meet(at(0, 0), at(4, 0), at(5, 0), at(9, 0)) }, false},
		{func() (bool, api.Errno) { return plane.Near(at(2, 3), at(0, 0), at(4, 0), 3) }, true},
		{func() (bool, api.Errno) { return plane.Near(at(2, 3), at(0, 0), at(4, 0), 2) }, false},
		{func() (bool, api.Errno) { return plane.Near(at(7, 4), at(0, 0), at(4, 0), 5) }, true},
		{func() (bool, api.Errno) { return plane.Near(at(7, 4), at(0, 0), at(4, 0), 4) }, false},
		{func() (bool, api.Errno) { return plane.Apart(at(2, 3), at(0, 0), at(4, 0), 3) }, true},
		{func() (bool, api.Errno) { return plane.Apart(at(2, 3), at(0, 0), at(4, 0), 4) }, false},
		{func() (bool, api.Errno) { return plane.Close(at(0, 0), at(4, 0), at(6, 1), at(6, 9), 2) }, false},
		{func() (bool, api.Errno) { return plane.Close(at(0, 0), at(4, 0), at(6, 1), at(6, 9), 3) }, true},
		{func() (bool, api.Errno) { return plane.Lies(at(3, 4), 5, at(0, 0), 10) }, true},
		{func() (bool, api.Errno) { return plane.Lies(at(3, 4), 5, at(0, 0), 9) }, false},
		// the first example of the whole system
		{func() (bool, api.Errno) { return plane.Near(at(5, 3), at(0, 0), at(10, 0), 3) }, true},
		{func() (bool, api.Errno) { return plane.Apart(at(5, 3), at(0, 0), at(10, 0), 3) }, true},
	} {
		if got, e := x.got(); got != x.want || e != api.OK {
			t.Errorf("example %d: %v, %v", i, got, e)
		}
	}
	for _, c := range []api.Point{at(4, 3), at(5, 3)} {
		if n, e := plane.Turn(at(0, 0), at(4, 0), c); n != 1 || e != api.OK {
			t.Errorf("Turn: %d, %v", n, e)
		}
	}
	for _, x := range []struct {
		to   api.Point
		want api.Span
	}{{at(1, 2), api.Span{Lo: 2, Hi: 3}}, {at(3, 4), api.Span{Lo: 5, Hi: 5}}} {
		if s, e := plane.Dist(at(0, 0), x.to); s != x.want || e != api.OK {
			t.Errorf("Dist: %v, %v", s, e)
		}
	}
}

// P1.1, A1: a place is valid up to the limits, and not beyond them.
func TestValid(t *testing.T) {
	for _, n := range []int{-most, -1, 0, 1, most} {
		if !plane.Valid(at(n, 0)) || !plane.Valid(at(0, n)) || !plane.Valid(at(n, -n)) {
			t.Errorf("%d is not valid", n)
		}
	}
	for _, n := range sample.Beyond(most) {
		if plane.Valid(at(n, 0)) || plane.Valid(at(0, n)) || plane.Valid(at(n, n)) {
			t.Errorf("%d is valid", n)
		}
	}
}

// P1.1, A2, A3, A5 and A9: turns and distances of a place and a segment are those of the oracle.
func TestPlaceAndSegment(t *testing.T) {
	eachTriple(func(p, a, b api.Point) {
		if n := expect.OK[int](t)(plane.Turn(p, a, b)); n != slope(p, a, p, b).Sign() {
			t.Errorf("Turn of %v, %v, %v: %d", p, a, b, n)
		}
		square := squareToSegment(p, a, b)
		if on := expect.OK[bool](t)(plane.On(p, a, b)); on != (square.Sign() == 0) {
			t.Errorf("On of %v, %v to %v: %v", p, a, b, on)
		}
		for _, d := range around(square) {
			sign := square.Cmp(mul(rat(d), rat(d)))
			if near := expect.OK[bool](t)(plane.Near(p, a, b, d)); near != (sign <= 0) {
				t.Errorf("Near of %v, %v to %v, %d: %v", p, a, b, d, near)
			}
			if apart := expect.OK[bool](t)(plane.Apart(p, a, b, d)); apart != (sign >= 0) {
				t.Errorf("Apart of %v, %v to %v, %d: %v", p, a, b, d, apart)
			}
		}
	})
}

// P1.1, A4 and A6: distances of segments are those of the oracle.
func TestSegments(t *testing.T) {
	eachFour(func(a, b, c, d api.Point) {
		square := squareOfSegments(a, b, c, d)
		if meet := expect.OK[bool](t)(plane.Meet(a, b, c, d)); meet != (square.Sign() == 0) {
			t.Errorf("Meet of %v to %v, and %v to %v: %v", a, b, c, d, meet)
		}
		for _, r := range around(square) {
			within := square.Cmp(mul(rat(r), rat(r))) <= 0
			if near := expect.OK[bool](t)(plane.Close(a, b, c, d, r)); near != within {
				t.Errorf("Close of %v to %v, and %v to %v, %d: %v", a, b, c, d, r, near)
			}
		}
	})
}

// P1.1, A5, A6 and A9: distances that differ from an integer by less than a millionth are told apart. The segment is 1000001 long.
func TestHardly(t *testing.T) {
	a, b := at(-500000, -1000), at(499999, 1000)
	for _, x := range []struct {
		p           api.Point
		near, apart bool
	}{
		{at(178845, 654680), true, false},
		{at(178345, 654679), true, true},
		{at(177845, 654678), false, true},
	} {
		if near := expect.OK[bool](t)(plane.Near(x.p, a, b, 654321)); near != x.near {
			t.Errorf("Near of %v: %v", x.p, near)
		}
		if apart := expect.OK[bool](t)(plane.Apart(x.p, a, b, 654321)); apart != x.apart {
			t.Errorf("Apart of %v: %v", x.p, apart)
		}
		if near := expect.OK[bool](t)(plane.Close(x.p, at(x.p.X, most), b, a, 654321)); near != x.near {
			t.Errorf("Close of %v: %v", x.p, near)
		}
	}
}

// P1.1: segments of no length, segments that touch, and distances of 0 and at the limit.
func TestEdges(t *testing.T) {
	for i, x := range []struct {
		a, b, c, d api.Point
		meet       bool
	}{
		{at(1, 1), at(1, 1), at(1, 1), at(1, 1), true},
		{at(1, 1), at(1, 1), at(1, 2), at(1, 2), false},
		{at(1, 1), at(1, 1), at(0, 0), at(2, 2), true},
		{at(1, 1), at(1, 1), at(2, 2), at(3, 3), false},
		{at(0, 0), at(4, 0), at(4, 0), at(9, 7), true},
		{at(0, 0), at(4, 0), at(2, 0), at(2, 5), true},
		{at(0, 0), at(4, 0), at(2, 1), at(2, 5), false},
		{at(0, 0), at(4, 0), at(4, 0), at(8, 0), true},
		{at(0, 0), at(8, 0), at(2, 0), at(5, 0), true},
		{at(0, 0), at(8, 0), at(0, 1), at(8, 1), false},
		{at(-most, -most), at(most, most), at(-most, most), at(most, -most), true},
		{at(-most, -most), at(most, most), at(-most, 1-most), at(most-1, most), false},
		{at(-most, -most), at(most, most), at(0, 1), at(-most, most), false},
	} {
		if meet := expect.OK[bool](t)(plane.Meet(x.a, x.b, x.c, x.d)); meet != x.meet {
			t.Errorf("case %d: Meet: %v", i, meet)
		}
		if near := expect.OK[bool](t)(plane.Close(x.a, x.b, x.c, x.d, 0)); near != x.meet {
			t.Errorf("case %d: Close within 0: %v", i, near)
		}
		if near := expect.OK[bool](t)(plane.Close(x.a, x.b, x.c, x.d, api.MaxDist)); !near {
			t.Errorf("case %d: not Close within the limit", i)
		}
	}
	far, near := at(-most, -most), at(most, most)
	if !expect.OK[bool](t)(plane.Near(far, near, near, api.MaxDist)) || expect.OK[bool](t)(plane.Apart(far, near, near, api.MaxDist)) {
		t.Error("all places are nearer than the limit")
	}
	if !expect.OK[bool](t)(plane.Apart(far, near, near, 0)) || expect.OK[bool](t)(plane.Near(far, near, near, 0)) {
		t.Error("the corners are apart")
	}
}

// P1.1, A7: the distance is rounded down and up.
func TestDist(t *testing.T) {
	list := append(wide(), small(4)...)
	for _, a := range list {
		for _, b := range list {
			n := square(rat(a.X), rat(a.Y), b).Num()
			down := new(big.Int).Sqrt(n)
			want := api.Span{Lo: int(down.Int64()), Hi: int(down.Int64())}
			if down.Mul(down, down).Cmp(n) != 0 {
				want.Hi++
			}
			if s := expect.OK[api.Span](t)(plane.Dist(a, b)); s != want {
				t.Errorf("Dist of %v and %v: %v, not %v", a, b, s, want)
			}
		}
	}
	for i, x := range []struct {
		a, b api.Point
		want api.Span
	}{
		{at(7, 7), at(7, 7), api.Span{}},
		{at(-most, -most), at(most, most), api.Span{Lo: 2828427, Hi: 2828428}},
		{at(-most, 0), at(most, 0), api.Span{Lo: 2000000, Hi: 2000000}},
		{at(-most, 0), at(most, 1), api.Span{Lo: 2000000, Hi: 2000001}},
	} {
		if s := expect.OK[api.Span](t)(plane.Dist(x.a, x.b)); s != x.want {
			t.Errorf("case %d: %v", i, s)
		}
	}
}

// P1.1, A8: a disc lies in another one if its place is not farther from that one's than the radii differ.
func TestLies(t *testing.T) {
	for _, q := range append(wide(), small(4)...) {
		p := at(0, 0)
		n := square(rat(0), rat(0), q)
		for _, r := range []int{0, 1, 100000} {
			for _, gap := range around(n) {
				if r+gap > api.MaxDist {
					continue
				}
				if lies := expect.OK[bool](t)(plane.Lies(p, r, q, r+gap)); lies != (n.Cmp(mul(rat(gap), rat(gap))) <= 0) {
					t.Errorf("Lies of %v with %d in %v with %d: %v", p, r, q, r+gap, lies)
				}
			}
		}
	}
	for i, x := range []struct {
		p    api.Point
		r    int
		q    api.Point
		s    int
		want bool
	}{
		{at(0, 0), 0, at(0, 0), 0, true},
		{at(0, 0), 2, at(0, 0), 2, true},
		{at(0, 0), 2, at(0, 0), 1, false},
		{at(3, 4), 10, at(0, 0), 5, false},
		{at(1, 1), 0, at(0, 0), 1, false},
		{at(1, 1), 0, at(0, 0), 2, true},
		{at(0, 0), api.MaxDist, at(0, 0), api.MaxDist, true},
		{at(0, 0), api.MaxDist, at(0, 0), 0, false},
		{at(-most, -most), 171572, at(most, most), api.MaxDist, true},
		{at(-most, -most), 171573, at(most, most), api.MaxDist, false},
	} {
		if lies := expect.OK[bool](t)(plane.Lies(x.p, x.r, x.q, x.s)); lies != x.want {
			t.Errorf("case %d: %v", i, lies)
		}
	}
}

// calls are all functions with an error, each with the places and distances that it takes.
var calls = []struct {
	name         string
	places, dist int
	call         func(p []api.Point, d []int) (any, api.Errno)
	zero         any
}{
	{"Turn", 3, 0, func(p []api.Point, d []int) (any, api.Errno) { return both(plane.Turn(p[0], p[1], p[2])) }, 0},
	{"On", 3, 0, func(p []api.Point, d []int) (any, api.Errno) { return both(plane.On(p[0], p[1], p[2])) }, false},
	{"Meet", 4, 0, func(p []api.Point, d []int) (any, api.Errno) { return both(plane.Meet(p[0], p[1], p[2], p[3])) }, false},
	{"Near", 3, 1, func(p []api.Point, d []int) (any, api.Errno) { return both(plane.Near(p[0], p[1], p[2], d[0])) }, false},
	{"Apart", 3, 1, func(p []api.Point, d []int) (any, api.Errno) { return both(plane.Apart(p[0], p[1], p[2], d[0])) }, false},
	{"Close", 4, 1, func(p []api.Point, d []int) (any, api.Errno) {
		return both(plane.Close(p[0], p[1], p[2], p[3], d[0]))
	}, false},
	{"Dist", 2, 0, func(p []api.Point, d []int) (any, api.Errno) { return both(plane.Dist(p[0], p[1])) }, api.Span{}},
	{"Lies", 2, 2, func(p []api.Point, d []int) (any, api.Errno) { return both(plane.Lies(p[0], d[0], p[1], d[1])) }, false},
}

// both returns a result as any value.
func both[T any](v T, e api.Errno) (any, api.Errno) { return v, e }

// P1 and P1.1: a place, radius or distance that is not valid, in whatever position, leads to ErrArg and zero, and nothing panics.
func TestNotValid(t *testing.T) {
	for _, c := range calls {
		check := func(p []api.Point, d []int, want api.Errno) {
			t.Helper()
			v, e := c.call(p, d)
			if e != want || e != api.OK && v != c.zero {
				t.Errorf("%s of %v, %v: %v, %v", c.name, p, d, v, e)
			}
		}
		p, d := make([]api.Point, c.places), make([]int, c.dist)
		check(p, d, api.OK)
		for i := range p {
			for _, n := range []int{-most, most} {
				p[i] = at(n, -n)
				check(p, d, api.OK)
			}
			for _, n := range sample.Beyond(most) {
				for _, q := range []api.Point{at(n, 0), at(0, n), at(n, n)} {
					p[i] = q
					check(p, d, api.ErrArg)
				}
			}
			p[i] = at(0, 0)
		}
		for i := range d {
			d[i] = api.MaxDist
			check(p, d, api.OK)
			for _, n := range []int{-1, api.MaxDist + 1, math.MinInt, math.MaxInt, -1 << 32, 1 << 32} {
				d[i] = n
				check(p, d, api.ErrArg)
			}
			d[i] = 0
		}
		for i := range p {
			p[i] = at(math.MinInt, math.MaxInt)
		}
		for i := range d {
			d[i] = math.MinInt
		}
		check(p, d, api.ErrArg)
	}
}
