package plane_test

import (
	"testing"

	"seamark/api"
	"seamark/internal/expect"
	"seamark/plane"
)

// P1.2: three places turn the same way from whichever they are counted, and the other way if two are exchanged.
func TestTurns(t *testing.T) {
	turn := func(a, b, c api.Point) int { return expect.OK[int](t)(plane.Turn(a, b, c)) }
	left := 0
	eachTriple(func(a, b, c api.Point) {
		n := turn(a, b, c)
		if n == 1 {
			left++
		}
		if turn(b, c, a) != n || turn(c, a, b) != n {
			t.Errorf("%v, %v, %v turn differently from another place", a, b, c)
		}
		if turn(b, a, c) != -n || turn(a, c, b) != -n || turn(c, b, a) != -n {
			t.Errorf("%v, %v, %v do not turn the other way when exchanged", a, b, c)
		}
	})
	if left == 0 {
		t.Error("nothing turns left")
	}
}

// orders returns the eight orders of the ends of two segments, and of both.
func orders(a, b, c, d api.Point) [][4]api.Point {
	return [][4]api.Point{
		{a, b, c, d}, {b, a, c, d}, {a, b, d, c}, {b, a, d, c},
		{c, d, a, b}, {d, c, a, b}, {c, d, b, a}, {d, c, b, a},
	}
}

// P1.3: segments meet in every order, if they have a common place, and exactly if their distance is at most 0.
func TestMeeting(t *testing.T) {
	places := small(3)
	eachFour(func(a, b, c, d api.Point) {
		meet := expect.OK[bool](t)(plane.Meet(a, b, c, d))
		for _, o := range orders(a, b, c, d) {
			if expect.OK[bool](t)(plane.Meet(o[0], o[1], o[2], o[3])) != meet {
				t.Errorf("Meet of %v differs from another order", o)
			}
		}
		if expect.OK[bool](t)(plane.Close(a, b, c, d, 0)) != meet {
			t.Errorf("Meet of %v to %v, and %v to %v, is not Close within 0", a, b, c, d)
		}
		for _, p := range places {
			if !meet && expect.OK[bool](t)(plane.On(p, a, b)) && expect.OK[bool](t)(plane.On(p, c, d)) {
				t.Errorf("%v to %v, and %v to %v, have %v and do not meet", a, b, c, d, p)
			}
		}
	})
}

// P1.4: what near and apart have to do with places on the segment, with each other, and with greater distances.
func TestNearAndApart(t *testing.T) {
	near := func(p, a, b api.Point, d int) bool { return expect.OK[bool](t)(plane.Near(p, a, b, d)) }
	apart := func(p, a, b api.Point, d int) bool { return expect.OK[bool](t)(plane.Apart(p, a, b, d)) }
	eachTriple(func(p, a, b api.Point) {
		if near(p, a, b, 0) != expect.OK[bool](t)(plane.On(p, a, b)) {
			t.Errorf("%v is near %v to %v, or on it, and not both", p, a, b)
		}
		for _, d := range around(squareToSegment(p, a, b)) {
			if !near(p, a, b, d) && !apart(p, a, b, d) {
				t.Errorf("%v is neither near nor apart from %v to %v with %d", p, a, b, d)
			}
			if d == api.MaxDist {
				continue
			}
			if near(p, a, b, d) && !near(p, a, b, d+1) {
				t.Errorf("%v is near %v to %v with %d, and not with 1 more", p, a, b, d)
			}
			if near(p, a, b, d) && apart(p, a, b, d+1) {
				t.Errorf("%v is near %v to %v with %d, and apart with 1 more", p, a, b, d)
			}
		}
	})
	for _, list := range [][]api.Point{small(3), wide()} {
		eachOn(t, list, func(q, a, b api.Point) {
			for _, p := range list {
				if d := expect.OK[api.Span](t)(plane.Dist(p, q)).Hi; !near(p, a, b, d) {
					t.Errorf("%v is not near %v to %v, and %d from %v there", p, a, b, d, q)
				}
			}
		})
	}
}

// eachOn calls f for all places of a list that are on a segment between two of them.
func eachOn(t *testing.T, list []api.Point, f func(q, a, b api.Point)) {
	for _, a := range list {
		for _, b := range list {
			for _, q := range list {
				if expect.OK[bool](t)(plane.On(q, a, b)) {
					f(q, a, b)
				}
			}
		}
	}
}

// P1.5: the distance is symmetric, rounded by at most 1, and no way over a third place is shorter.
func TestDistances(t *testing.T) {
	dist := func(a, b api.Point) api.Span { return expect.OK[api.Span](t)(plane.Dist(a, b)) }
	eachTriple(func(a, b, c api.Point) {
		s := dist(a, c)
		if s != dist(c, a) {
			t.Errorf("the distance of %v and %v is not symmetric", a, c)
		}
		if s.Hi-s.Lo < 0 || s.Hi-s.Lo > 1 {
			t.Errorf("the distance of %v and %v is %v", a, c, s)
		}
		if (s.Hi == 0) != (a == c) {
			t.Errorf("the distance of %v and %v is %v", a, c, s)
		}
		if over := dist(a, b).Hi + dist(b, c).Hi; over < s.Hi {
			t.Errorf("from %v over %v to %v it is %d, and straight on %v", a, b, c, over, s)
		}
	})
}

// P1.6: discs within discs within discs; places of inner discs; places as discs.
func TestDiscs(t *testing.T) {
	lies := func(p api.Point, r int, q api.Point, s int) bool { return expect.OK[bool](t)(plane.Lies(p, r, q, s)) }
	holds := func(p, q api.Point, s int) bool { return expect.OK[bool](t)(plane.Near(p, q, q, s)) }
	within := 0
	for _, list := range [][]api.Point{small(3), {at(-most, -most), at(most, most), at(0, 0), at(most, most-1)}} {
		for _, far := range [][]int{{0, 1, 2, 3, 5}, {0, 1000000, 1414214, 2828428, api.MaxDist}} {
			eachTwoDiscs(list, far, func(p api.Point, r int, q api.Point, s int) {
				if lies(p, 0, q, s) != holds(p, q, s) {
					t.Errorf("%v is not a disc of the radius 0 in %v with %d", p, q, s)
				}
				if !lies(p, r, q, s) {
					return
				}
				within++
				for _, o := range list {
					if holds(o, p, r) && !holds(o, q, s) {
						t.Errorf("%v is in %v with %d, and not in %v with %d", o, p, r, q, s)
					}
					for _, u := range far {
						if lies(q, s, o, u) && !lies(p, r, o, u) {
							t.Errorf("%v with %d lies in %v with %d, which lies in %v with %d", p, r, q, s, o, u)
						}
					}
				}
			})
		}
	}
	if within == 0 {
		t.Error("no disc lies in another one")
	}
}

// eachTwoDiscs calls f for all pairs of discs about these places with these radii.
func eachTwoDiscs(list []api.Point, radii []int, f func(p api.Point, r int, q api.Point, s int)) {
	for _, p := range list {
		for _, r := range radii {
			for _, q := range list {
				for _, s := range radii {
					f(p, r, q, s)
				}
			}
		}
	}
}

// P1.7: segments with places within a distance are so close, in every order.
func TestCloseness(t *testing.T) {
	eachFour(func(a, b, c, d api.Point) {
		for _, r := range []int{0, 1, 2, 1000000} {
			near := expect.OK[bool](t)(plane.Close(a, b, c, d, r))
			for _, o := range orders(a, b, c, d) {
				if expect.OK[bool](t)(plane.Close(o[0], o[1], o[2], o[3], r)) != near {
					t.Errorf("Close of %v, %d differs from another order", o, r)
				}
			}
		}
	})
	list := append(small(3), at(-most, -most), at(most, most))
	eachOn(t, list, func(p, a, b api.Point) {
		eachOn(t, list, func(q, c, d api.Point) {
			r := expect.OK[api.Span](t)(plane.Dist(p, q)).Hi
			if !expect.OK[bool](t)(plane.Close(a, b, c, d, r)) {
				t.Errorf("%v to %v, and %v to %v, are not close with %d, as %v and %v are", a, b, c, d, r, p, q)
			}
		})
	})
}

// answers is all that can be asked of four places.
type answers struct {
	turn                                int
	on, meet, near, apart, closer, lies bool
	dist                                api.Span
}

func ask(t *testing.T, a, b, c, d api.Point, r int) answers {
	return answers{
		turn:   expect.OK[int](t)(plane.Turn(a, b, c)),
		on:     expect.OK[bool](t)(plane.On(a, b, c)),
		meet:   expect.OK[bool](t)(plane.Meet(a, b, c, d)),
		near:   expect.OK[bool](t)(plane.Near(a, b, c, r)),
		apart:  expect.OK[bool](t)(plane.Apart(a, b, c, r)),
		closer: expect.OK[bool](t)(plane.Close(a, b, c, d, r)),
		lies:   expect.OK[bool](t)(plane.Lies(a, 1, d, r)),
		dist:   expect.OK[api.Span](t)(plane.Dist(a, b)),
	}
}

// P1.8: answers are the same if all places are moved or turned by a quarter; if they are mirrored, turns are the opposite ones.
func TestMovingAndTurning(t *testing.T) {
	moved := func(x, y int) func(api.Point) api.Point {
		return func(p api.Point) api.Point { return at(p.X+x, p.Y+y) }
	}
	mirror := []func(api.Point) api.Point{
		func(p api.Point) api.Point { return at(-p.X, p.Y) },
		func(p api.Point) api.Point { return at(p.X, -p.Y) },
		func(p api.Point) api.Point { return at(p.Y, p.X) },
	}
	same := []func(api.Point) api.Point{
		moved(17, -5), moved(most-1, most-1), moved(1-most, most-1),
		func(p api.Point) api.Point { return at(-p.Y, p.X) },
		func(p api.Point) api.Point { return at(p.Y, -p.X) },
	}
	eachFour(func(a, b, c, d api.Point) {
		for _, r := range []int{1, 2, 1414214} {
			was := ask(t, a, b, c, d, r)
			for i, f := range same {
				if !plane.Valid(f(a)) || !plane.Valid(f(b)) || !plane.Valid(f(c)) || !plane.Valid(f(d)) {
					continue
				}
				if is := ask(t, f(a), f(b), f(c), f(d), r); is != was {
					t.Errorf("%v, %v, %v, %v, %d, change %d: %v, not %v", a, b, c, d, r, i, is, was)
				}
			}
			was.turn = -was.turn
			for i, f := range mirror {
				if is := ask(t, f(a), f(b), f(c), f(d), r); is != was {
					t.Errorf("%v, %v, %v, %v, %d, mirrored %d: %v, not %v", a, b, c, d, r, i, is, was)
				}
			}
		}
	})
}
