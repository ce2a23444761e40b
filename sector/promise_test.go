package sector_test

import (
	"slices"
	"testing"

	"seamark/api"
	"seamark/internal/expect"
	"seamark/internal/sample"
	"seamark/sector"
)

// colors are those of lights.
var colors = []int{api.White, api.Red, api.Green}

// P5.2: of the sectors from a to b and from b to a, exactly one has a direction.
func TestTurning(t *testing.T) {
	in := func(from, to, v api.Point) bool { return expect.OK[bool](t)(sector.In(between(from, to), v)) }
	eachList(func(directions []api.Point) {
		for i, a := range directions {
			if !in(a, a, a) || !in(a, times(a, longest(a)), a) {
				t.Errorf("the sector from %v to one alike has not all directions", a)
			}
			for k, b := range directions {
				if i != k && (!in(a, b, a) || in(a, b, b)) {
					t.Errorf("the sector from %v to %v has its To, or not its From", a, b)
				}
				for _, v := range sample.Every(directions, 3) {
					if i != k && in(a, b, v) == in(b, a, v) {
						t.Errorf("the sectors from %v to %v and back have %v both, or neither", a, b, v)
					}
				}
			}
		}
	})
}

// P5.2: what a sector has does not depend on the lengths of directions.
func TestLengths(t *testing.T) {
	in := func(from, to, v api.Point) bool { return expect.OK[bool](t)(sector.In(between(from, to), v)) }
	r := chance()
	for _, a := range ring(2) {
		for _, b := range ring(2) {
			for _, v := range ring(2) {
				want := in(a, b, v)
				for range 3 {
					from, to, w := lengthened(r, a), lengthened(r, b), lengthened(r, v)
					if in(from, to, w) != want {
						t.Errorf("In of %v, %v and %v, and of %v, %v and %v", a, b, v, from, to, w)
					}
				}
			}
		}
	}
}

// P5.3: at most one sector of a light has a direction, and the light shows what this one says.
func TestOneColor(t *testing.T) {
	lit := 0
	for _, list := range lights() {
		for _, v := range sample.Every(around(list), 2) {
			want := shown{}
			count := 0
			for _, s := range list {
				if expect.OK[bool](t)(sector.In(s, v)) {
					want = shown{look{s.Color, s.Range}, api.OK}
					count++
				}
			}
			if got := colorOf(list, v); count > 1 || got != want {
				t.Errorf("%d sectors of %v have %v, where it shows %v", count, list, v, got)
			}
			lit += count
		}
	}
	if lit < 3000 {
		t.Errorf("only %d directions are lit", lit)
	}
}

// P5.3: the order of the sectors does not matter.
func TestOrder(t *testing.T) {
	for _, list := range lights() {
		other := slices.Clone(list)
		slices.Reverse(other)
		for _, l := range [][]api.Sector{other, slices.Concat(list[len(list)/2:], list[:len(list)/2])} {
			if !sector.Valid(l) {
				t.Errorf("%v is not valid in another order", list)
			}
			for _, v := range sample.Every(around(list), 3) {
				if colorOf(l, v) != colorOf(list, v) {
					t.Errorf("%v shows something else at %v in another order", list, v)
				}
				seen := func(l []api.Sector) int { return expect.OK[int](t)(sector.Seen(l, at(0, 0), v)) }
				if seen(l) != seen(list) {
					t.Errorf("%v is seen differently at %v in another order", list, v)
				}
			}
			one, e := sector.Normal(list)
			two, e2 := sector.Normal(l)
			if !slices.Equal(one, two) || e != api.OK || e2 != api.OK {
				t.Errorf("the normal form of %v depends on the order", list)
			}
		}
	}
}

// P5.4: if b holds a color of a, b shows it as far wherever a does.
func TestHolding(t *testing.T) {
	lit := 0
	eachPair(func(a, b []api.Sector) {
		for _, color := range colors {
			if !expect.OK[bool](t)(sector.Holds(a, b, color)) {
				continue
			}
			for _, v := range sample.Every(around(a, b), 9) {
				mine, its := colorOf(a, v), colorOf(b, v)
				if mine.color != color {
					continue
				}
				lit++
				if its.color != color || its.reach < mine.reach {
					t.Errorf("%v holds %d of %v, but not at %v", b, color, a, v)
				}
			}
		}
	})
	if lit < 10000 {
		t.Errorf("only %d directions are lit", lit)
	}
}

// P5.4: a light holds its own colors, and what holds what holds a color holds it.
func TestHoldingOn(t *testing.T) {
	r := chance()
	held := 0
	for _, a := range slices.Repeat(lights(), 8) {
		b := varied(r, a)
		c := varied(r, b)
		for _, color := range colors {
			holds := func(a, b []api.Sector) bool { return expect.OK[bool](t)(sector.Holds(a, b, color)) }
			if !holds(a, a) || !holds(a, reordered(r, a)) {
				t.Errorf("%v does not hold its own color %d", a, color)
			}
			if !holds(a, b) || !holds(b, c) {
				continue
			}
			held++
			if !holds(a, c) {
				t.Errorf("%v does not hold the color %d of %v, but that of %v", c, color, a, b)
			}
		}
	}
	if held < 1000 {
		t.Errorf("a color was held twice only %d times", held)
	}
}

// whiter reports whether b shows White at v, and a does not, or not as far.
func whiter(a, b []api.Sector, v api.Point) bool {
	mine, its := colorOf(a, v), colorOf(b, v)
	return its.color == api.White && (mine.color != api.White || its.reach > mine.reach)
}

// P5.5: a light that is not safer shows White nowhere else and nowhere farther; one that is does so at a turn.
func TestSafer(t *testing.T) {
	counts := map[bool]int{}
	eachPair(func(a, b []api.Sector) {
		safer := expect.OK[bool](t)(sector.Safer(a, b))
		counts[safer]++
		there := func(v api.Point) bool { return whiter(a, b, v) }
		if !safer && slices.ContainsFunc(sample.Every(around(a, b), 5), there) {
			t.Errorf("%v is not safer than %v, but it is somewhere", b, a)
		}
		var turns []api.Point
		for _, s := range slices.Concat(a, b) {
			turns = append(turns, s.From, s.To)
		}
		if safer != slices.ContainsFunc(turns, there) {
			t.Errorf("%v is safer than %v: %v, and at a turn: %v", b, a, safer, !safer)
		}
	})
	if counts[true] < 500 || counts[false] < 500 {
		t.Errorf("lights are safer, or not: %v", counts)
	}
}

// P5.6: the normal form is a light that shows the same, and is its own normal form.
func TestNormalShowsTheSame(t *testing.T) {
	for _, list := range lights() {
		n, e := sector.Normal(list)
		if e != api.OK || !sector.Valid(n) {
			t.Errorf("Normal of %v: %v, %v", list, n, e)
		}
		for _, v := range around(list, n) {
			if got, want := colorOf(n, v), colorOf(list, v); got != want {
				t.Errorf("Normal of %v shows %v at %v, and not %v", list, got, v, want)
			}
		}
		if again, e := sector.Normal(n); !slices.Equal(again, n) || e != api.OK {
			t.Errorf("Normal of %v, which is a normal form: %v, %v", n, again, e)
		}
	}
}

// P5.6: two lights have the same normal form exactly if each color is held both ways.
func TestSameNormalForm(t *testing.T) {
	counts := map[bool]int{}
	eachPair(func(a, b []api.Sector) {
		same := true
		for _, color := range colors {
			same = same && expect.OK[bool](t)(sector.Holds(a, b, color)) && expect.OK[bool](t)(sector.Holds(b, a, color))
		}
		m, e := sector.Normal(a)
		n, e2 := sector.Normal(b)
		if slices.Equal(m, n) != same || e != api.OK || e2 != api.OK {
			t.Errorf("%v and %v hold each other: %v, but their normal forms are %v and %v", a, b, same, m, n)
		}
		counts[same]++
	})
	if counts[true] < 500 || counts[false] < 500 {
		t.Errorf("normal forms are the same, or not: %v", counts)
	}
}

// P5.7: turned by a quarter, a light shows the same in a direction that is turned, and is seen so.
func TestTurnedLights(t *testing.T) {
	for _, list := range lights() {
		turned := quarters(list)
		if !sector.Valid(turned) {
			t.Errorf("%v is not valid", turned)
		}
		for _, v := range sample.Every(around(list), 2) {
			if colorOf(turned, quarter(v)) != colorOf(list, v) {
				t.Errorf("%v shows something else at %v if it is turned", list, v)
			}
			before := expect.OK[int](t)(sector.Seen(list, at(0, 0), v))
			if after := expect.OK[int](t)(sector.Seen(turned, at(0, 0), quarter(v))); after != before {
				t.Errorf("%v is seen at %v as %d, and as %d if it is turned", list, v, before, after)
			}
		}
	}
}

// P5.7: lights are compared the same way if both are turned.
func TestTurnedComparisons(t *testing.T) {
	eachPair(func(a, b []api.Sector) {
		c, d := quarters(a), quarters(b)
		for _, color := range colors {
			if expect.OK[bool](t)(sector.Holds(a, b, color)) != expect.OK[bool](t)(sector.Holds(c, d, color)) {
				t.Errorf("Holds of %v, %v and %d changes if they are turned", a, b, color)
			}
		}
		if expect.OK[bool](t)(sector.Safer(a, b)) != expect.OK[bool](t)(sector.Safer(c, d)) {
			t.Errorf("Safer of %v and %v changes if they are turned", a, b)
		}
	})
}

// P5.8: what is seen is dark, or what the light shows; twice as far it is the same or nothing; and light and ship may be anywhere.
func TestSeenAnywhere(t *testing.T) {
	r := chance()
	nothing, moved := 0, 0
	for _, list := range lights() {
		for _, v := range sample.Every(around(list), 2) {
			seen := expect.OK[int](t)(sector.Seen(list, at(0, 0), v))
			if seen != 0 && seen != colorOf(list, v).color {
				t.Errorf("%v is seen at %v as %d", list, v, seen)
			}
			if far := times(v, 2); isDirection(far) {
				twice := expect.OK[int](t)(sector.Seen(list, at(0, 0), far))
				if twice != 0 && twice != seen {
					t.Errorf("%v is seen at %v as %d, and twice as far as %d", list, v, seen, twice)
				}
				if twice != seen {
					nothing++
				}
			}
			from := at(sample.UpTo(r, api.MaxCoord), sample.UpTo(r, api.MaxCoord))
			p := at(from.X+v.X, from.Y+v.Y)
			if max(p.X, -p.X, p.Y, -p.Y) > api.MaxCoord {
				continue
			}
			moved++
			if got := expect.OK[int](t)(sector.Seen(list, from, p)); got != seen {
				t.Errorf("%v is seen at %v from %v as %d, and not as %d", list, p, from, got, seen)
			}
		}
	}
	if nothing < 200 || moved < 2000 {
		t.Errorf("only %d places twice as far are dark, and %d were moved", nothing, moved)
	}
}
