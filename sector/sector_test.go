package sector_test

import (
	"slices"
	"testing"

	"seamark/api"
	"seamark/internal/expect"
	"seamark/internal/sample"
	"seamark/sector"
)

// shown is what Color returns.
type shown struct {
	look
	e api.Errno
}

func colorOf(list []api.Sector, v api.Point) shown {
	color, reach, e := sector.Color(list, v)
	return shown{look{color, reach}, e}
}

// P5.1: the examples of the chapter.
func TestExamples(t *testing.T) {
	for i, x := range []struct {
		from, to, v api.Point
		want        bool
	}{
		{at(1, 0), at(0, 1), at(5, 5), true},
		{at(1, 0), at(0, 1), at(0, 3), false},
		{at(0, 1), at(1, 0), at(-1, -7), true},
		{at(0, 1), at(1, 0), at(2, 0), false},
		{at(1, 0), at(3, 0), at(-2, 5), true},
	} {
		if got := expect.OK[bool](t)(sector.In(between(x.from, x.to), x.v)); got != x.want {
			t.Errorf("In %d: %v", i, got)
		}
	}
	if got := colorOf(append(white(50), arc(api.Red, 30, at(0, 2), at(-1, 0))), at(-1, 9)); got != (shown{look{api.Red, 30}, api.OK}) {
		t.Errorf("Color: %v", got)
	}
	narrow := []api.Sector{arc(api.White, 50, at(1, 1), at(0, 1))}
	if expect.OK[bool](t)(sector.Safer(white(50), narrow)) || !expect.OK[bool](t)(sector.Safer(narrow, white(50))) {
		t.Error("Safer")
	}
	n, e := sector.Normal([]api.Sector{arc(api.Red, 30, at(0, 2), at(2, 0)), arc(api.Red, 30, at(1, 0), at(0, 1))})
	if !slices.Equal(n, []api.Sector{arc(api.Red, 30, at(1, 0), at(1, 0))}) || e != api.OK {
		t.Errorf("Normal: %v, %v", n, e)
	}
	for i, x := range []struct {
		from, p api.Point
		want    int
	}{
		{at(10, 10), at(13, 14), api.White}, {at(10, 10), at(14, 14), 0},
		// the second example of the whole system
		{at(0, 0), at(3, 4), api.White}, {at(0, 0), at(4, 4), 0},
	} {
		if got := expect.OK[int](t)(sector.Seen(white(5), x.from, x.p)); got != x.want {
			t.Errorf("Seen %d: %d", i, got)
		}
	}
}

// P5.1, E1: sectors are valid up to the limits of all fields; sectors of a light may touch.
func TestValid(t *testing.T) {
	for _, s := range []api.Sector{
		arc(api.White, 1, at(most, most), at(-most, most)), arc(api.Green, api.MaxDist, at(-most, -most), at(most, -most)),
		arc(api.Red, 5, at(0, 1), at(0, 1)), arc(api.Red, 5, at(0, -1), at(0, -most)),
	} {
		if !sector.Valid([]api.Sector{s}) {
			t.Errorf("%v is not valid", s)
		}
	}
	touching := [][]api.Sector{
		append(white(50), between(at(0, 1), at(1, 0))), append(white(50), between(at(0, 7), at(most, 0))),
		append(white(50), between(at(0, 7), at(-1, 0)), between(at(1, -most), at(1, 0)), between(at(-9, 0), at(1, -most))),
		{between(at(most-1, most), at(most-2, most-1)), between(at(most-2, most-1), at(most-1, most))},
	}
	for _, list := range append(lights(), touching...) {
		if !sector.Valid(list) {
			t.Errorf("%v is not valid", list)
		}
	}
	for _, list := range notLights() {
		if sector.Valid(list) {
			t.Errorf("%v is valid", list)
		}
	}
}

// P5.1, E1: of lists of any sectors those are valid that the oracle takes.
func TestValidLists(t *testing.T) {
	r := chance()
	good, bad := 0, 0
	eachList(func(directions []api.Point) {
		for range 600 {
			var list []api.Sector
			for range 2 + r.IntN(3) {
				k, width := r.IntN(len(directions)), 1+r.IntN(len(directions)/3)
				list = append(list, between(lengthened(r, toward(angle(directions[k]))), directions[(k+width)%len(directions)]))
			}
			want := isLight(list)
			if got := sector.Valid(list); got != want {
				t.Errorf("%v is valid: %v", list, got)
			}
			if want {
				good++
			} else {
				bad++
			}
		}
	})
	if good < 200 || bad < 200 {
		t.Errorf("%d lists are valid, %d are not", good, bad)
	}
}

// P5.1: a list that is no light is refused in every position, ahead of ErrNone.
func TestErrArgOfLights(t *testing.T) {
	for _, list := range notLights() {
		if got := colorOf(list, at(1, 0)); got != (shown{e: api.ErrArg}) {
			t.Errorf("Color of %v: %v", list, got)
		}
		for _, other := range [][]api.Sector{nil, white(50), twelve(), list} {
			for i, got := range []expect.Pair[bool]{
				expect.Result(sector.Holds(list, other, api.White)), expect.Result(sector.Holds(other, list, api.White)),
				expect.Result(sector.Safer(list, other)), expect.Result(sector.Safer(other, list)),
			} {
				if got != expect.Fails[bool](api.ErrArg) {
					t.Errorf("comparison %d takes %v with %v", i, list, other)
				}
			}
		}
		if n, e := sector.Normal(list); len(n) > 0 || e != api.ErrArg {
			t.Errorf("Normal of %v: %v, %v", list, n, e)
		}
		for _, p := range []api.Point{at(0, 0), at(3, 4)} {
			if got := expect.Result(sector.Seen(list, at(0, 0), p)); got != expect.Fails[int](api.ErrArg) {
				t.Errorf("Seen of %v: %v", list, got)
			}
		}
	}
}

// P5.1: sectors, directions, places and colors that are not valid are refused, ahead of ErrNone.
func TestErrArg(t *testing.T) {
	good := white(50)[0]
	for _, s := range notSectors() {
		for _, v := range []api.Point{at(1, 0), at(1, 1), at(0, 0)} {
			if got := expect.Result(sector.In(s, v)); got != expect.Fails[bool](api.ErrArg) {
				t.Errorf("In of %v: %v", s, got)
			}
		}
	}
	for _, v := range notDirections() {
		if got := expect.Result(sector.In(good, v)); got != expect.Fails[bool](api.ErrArg) {
			t.Errorf("In of %v: %v", v, got)
		}
		for _, list := range [][]api.Sector{nil, white(50), twelve()} {
			if got := colorOf(list, v); got != (shown{e: api.ErrArg}) {
				t.Errorf("Color of %v: %v", v, got)
			}
		}
	}
	for _, color := range append(sample.Beyond(api.Green), 0, -1, -2, -3) {
		for _, list := range [][]api.Sector{nil, white(50)} {
			if got := expect.Result(sector.Holds(list, list, color)); got != expect.Fails[bool](api.ErrArg) {
				t.Errorf("Holds of the color %d: %v", color, got)
			}
		}
	}
	for _, n := range sample.Beyond(api.MaxCoord) {
		for _, p := range []api.Point{at(n, 0), at(0, n), at(n, n)} {
			for _, list := range [][]api.Sector{nil, white(50)} {
				for i, got := range []expect.Pair[int]{
					expect.Result(sector.Seen(list, p, at(0, 0))), expect.Result(sector.Seen(list, at(0, 0), p)), expect.Result(sector.Seen(list, p, p)),
				} {
					if got != expect.Fails[int](api.ErrArg) {
						t.Errorf("Seen %d takes %v: %v", i, p, got)
					}
				}
			}
		}
	}
}

// P5.1, E2: a sector has the directions of the oracle.
func TestIn(t *testing.T) {
	r := chance()
	in, out := 0, 0
	eachList(func(directions []api.Point) {
		for i, from := range directions {
			for k, to := range directions {
				s := between(lengthened(r, toward(angle(from))), lengthened(r, toward(angle(to))))
				for _, v := range sample.Every(directions, 1+(i+k)%5) {
					want := passes(s, angle(v))
					if got := expect.OK[bool](t)(sector.In(s, v)); got != want {
						t.Errorf("In of %v and %v: %v", s, v, got)
					}
					if want {
						in++
					} else {
						out++
					}
				}
			}
		}
	})
	if in < 10000 || out < 10000 {
		t.Errorf("%d directions are in, %d are not", in, out)
	}
}

// P5.1, E2: directions whose angles differ as little as possible are told apart, and opposite ones.
func TestInAtTheLimits(t *testing.T) {
	low, high := at(most-1, most-2), at(most, most-1)
	for turns := range 4 {
		for i, x := range []struct {
			from, to, v api.Point
			want        bool
		}{
			{low, high, low, true}, {low, high, high, false}, {low, high, times(low, -1), false},
			{high, low, high, true}, {high, low, low, false}, {high, low, times(low, -1), true},
			{low, times(low, -1), high, true}, {low, times(low, -1), times(low, -1), false}, {low, times(low, -1), times(high, -1), false},
			{times(low, -1), low, high, false}, {times(low, -1), low, low, false}, {times(low, -1), low, times(high, -1), true},
		} {
			if got := expect.OK[bool](t)(sector.In(between(x.from, x.to), x.v)); got != x.want {
				t.Errorf("limit %d, turned by %d quarters: %v", i, turns, got)
			}
		}
		low, high = quarter(low), quarter(high)
	}
}

// P5.1, E3: a light shows what the oracle says.
func TestColor(t *testing.T) {
	lit, dark := 0, 0
	for _, list := range lights() {
		for _, v := range around(list) {
			want, count := lookAt(list, angle(v))
			if got := colorOf(list, v); got != (shown{want, api.OK}) {
				t.Errorf("Color of %v and %v: %v", list, v, got)
			}
			if count > 0 {
				lit++
			} else {
				dark++
			}
		}
	}
	if lit < 5000 || dark < 1000 {
		t.Errorf("%d directions are lit, %d are dark", lit, dark)
	}
}

// P5.1, E4 and E5: lights are compared as by the oracle.
func TestHoldsAndSafer(t *testing.T) {
	counts := map[string]int{}
	eachPair(func(a, b []api.Sector) {
		for color := api.White; color <= api.Green; color++ {
			want := held(a, b, color)
			if got := expect.OK[bool](t)(sector.Holds(a, b, color)); got != want {
				t.Errorf("Holds of %v, %v and %d: %v", a, b, color, got)
			}
			if want {
				counts["held"]++
			} else {
				counts["not held"]++
			}
		}
		want := looksSafer(a, b)
		if got := expect.OK[bool](t)(sector.Safer(a, b)); got != want {
			t.Errorf("Safer of %v and %v: %v", a, b, got)
		}
		if want {
			counts["safer"]++
		} else {
			counts["not safer"]++
		}
	})
	for what, count := range counts {
		if count < 500 {
			t.Errorf("only %d pairs are %s", count, what)
		}
	}
}

// P5.1, E4 and E5: what is shown farther, elsewhere, or in another color.
func TestComparisons(t *testing.T) {
	red := []api.Sector{arc(api.Red, 50, at(1, 0), at(0, 1))}
	full := []api.Sector{arc(api.White, 50, at(0, -1), at(0, -1))}
	halves := []api.Sector{arc(api.White, 50, at(0, -3), at(1, 1)), arc(api.White, 51, at(1, 1), at(0, -2))}
	for i, x := range []struct {
		a, b         []api.Sector
		holds, safer bool
	}{
		{nil, nil, true, false}, {nil, white(1), true, true}, {white(1), nil, false, false}, {nil, red, true, false}, {red, nil, true, false},
		{white(50), white(50), true, false}, {white(50), white(51), true, true}, {white(51), white(50), false, false},
		{white(50), red, false, false}, {red, white(50), true, true}, {white(50), full, true, true}, {full, white(50), false, false},
		{full, halves, true, true}, {halves, full, false, false}, {white(50), halves, true, true}, {white(51), halves, false, true},
	} {
		if got := expect.OK[bool](t)(sector.Holds(x.a, x.b, api.White)); got != x.holds {
			t.Errorf("Holds %d: %v", i, got)
		}
		if got := expect.OK[bool](t)(sector.Safer(x.a, x.b)); got != x.safer {
			t.Errorf("Safer %d: %v", i, got)
		}
	}
}

// P5.1, E6: the normal form is that of the oracle.
func TestNormal(t *testing.T) {
	r := chance()
	shorter := 0
	for _, list := range lights() {
		for _, l := range [][]api.Sector{list, varied(r, list), varied(r, varied(r, list))} {
			n, e := sector.Normal(l)
			if want := normal(l); !slices.Equal(n, want) || e != api.OK {
				t.Errorf("Normal of %v: %v, %v, and not %v", l, n, e, want)
			}
			if len(n) < len(l) {
				shorter++
			}
		}
	}
	if shorter < 50 {
		t.Errorf("only %d normal forms have fewer sectors", shorter)
	}
}

// P5.1, E6: the words about the normal form, one by one.
func TestNormalForms(t *testing.T) {
	east := at(1, 0)
	for i, x := range []struct{ list, want []api.Sector }{
		{nil, nil},
		// the same everywhere, of one sector or of several ones
		{[]api.Sector{arc(1, 7, at(-4, -2), at(-2, -1))}, []api.Sector{arc(1, 7, east, east)}},
		{[]api.Sector{arc(1, 7, at(0, 1), at(0, -1)), arc(1, 7, at(0, -1), at(2, 1)), arc(1, 7, at(4, 2), at(0, 3))}, []api.Sector{arc(1, 7, east, east)}},
		// the least integers, in each quarter and at the limits
		{[]api.Sector{arc(3, 9, at(-6, -4), at(6, -4)), arc(2, 9, at(6, 4), at(-6, 4))}, []api.Sector{arc(2, 9, at(3, 2), at(-3, 2)), arc(3, 9, at(-3, -2), at(3, -2))}},
		{[]api.Sector{arc(3, 9, at(-most, 0), at(0, -most))}, []api.Sector{arc(3, 9, at(-1, 0), at(0, -1))}},
		{[]api.Sector{arc(3, 9, at(most, most-2), at(-most, -most))}, []api.Sector{arc(3, 9, at(most/2, most/2-1), at(-1, -1))}},
		// sectors that go on, also where angles begin again
		{[]api.Sector{arc(1, 7, at(0, 1), at(-1, 0)), arc(1, 7, at(1, 1), at(0, 1))}, []api.Sector{arc(1, 7, at(1, 1), at(-1, 0))}},
		{[]api.Sector{arc(1, 7, east, at(0, 1)), arc(1, 7, at(0, -1), east)}, []api.Sector{arc(1, 7, at(0, -1), at(0, 1))}},
		// those with another range or another color do not
		{[]api.Sector{arc(1, 7, at(0, 1), at(-1, 0)), arc(1, 8, at(1, 1), at(0, 1))}, []api.Sector{arc(1, 8, at(1, 1), at(0, 1)), arc(1, 7, at(0, 1), at(-1, 0))}},
		{[]api.Sector{arc(1, 7, at(0, 1), at(-1, 0)), arc(2, 7, at(1, 1), at(0, 1))}, []api.Sector{arc(2, 7, at(1, 1), at(0, 1)), arc(1, 7, at(0, 1), at(-1, 0))}},
		// nor those with a dark gap between them
		{[]api.Sector{arc(1, 7, at(0, 1), at(-1, 0)), arc(1, 7, at(1, 1), at(1, 2))}, []api.Sector{arc(1, 7, at(1, 1), at(1, 2)), arc(1, 7, at(0, 1), at(-1, 0))}},
	} {
		if n, e := sector.Normal(x.list); !slices.Equal(n, x.want) || e != api.OK {
			t.Errorf("normal form %d: %v, %v", i, n, e)
		}
	}
}

// P5.1, E7: what is seen is what the oracle says, at places near the range and at the limits.
func TestSeen(t *testing.T) {
	r := chance()
	counts := map[bool]int{}
	for _, list := range lights() {
		for range 40 {
			from := at(sample.UpTo(r, api.MaxCoord), sample.UpTo(r, api.MaxCoord))
			reach := 8
			if r.IntN(2) == 0 {
				reach = api.MaxCoord
			}
			p := at(from.X+sample.UpTo(r, reach), from.Y+sample.UpTo(r, reach))
			if p == from || max(p.X, -p.X, p.Y, -p.Y) > api.MaxCoord {
				continue
			}
			want := seen(list, from, p)
			if got := expect.OK[int](t)(sector.Seen(list, from, p)); got != want {
				t.Errorf("Seen of %v, %v and %v: %d", list, from, p, got)
			}
			counts[want > 0]++
		}
	}
	if counts[true] < 500 || counts[false] < 500 {
		t.Errorf("a color is seen, or none: %v", counts)
	}
}

// P5.1, E7: a light is seen as far as its range, and not farther; far away, directions are longer than those of sectors.
func TestSeenAtTheLimits(t *testing.T) {
	const end = api.MaxCoord
	west := []api.Sector{arc(api.Red, api.MaxDist, at(-1, 1), at(-1, -1))}
	// The direction (2 end - 1, 2 end) comes before it, but not if it is halved and rounded down.
	thin := []api.Sector{arc(api.Green, api.MaxDist, at(end-1, end), at(0, 1))}
	for i, x := range []struct {
		list    []api.Sector
		from, p api.Point
		want    expect.Pair[int]
	}{
		{white(5), at(0, 0), at(5, 0), expect.Result(api.White, api.OK)},
		{white(5), at(0, 0), at(5, 1), expect.Result(0, api.OK)},
		{white(5), at(0, 0), at(6, 0), expect.Result(0, api.OK)},
		{white(5), at(0, 0), at(0, 5), expect.Result(0, api.OK)},
		{white(5), at(0, 0), at(0, 0), expect.Fails[int](api.ErrNone)},
		{nil, at(end, -end), at(end, -end), expect.Fails[int](api.ErrNone)},
		{nil, at(end, -end), at(end, end), expect.Result(0, api.OK)},
		{west, at(end, 0), at(-end, 0), expect.Result(api.Red, api.OK)},
		{west, at(end, -end), at(-end, end), expect.Result(api.Red, api.OK)},
		{west, at(end, end), at(-end, -end), expect.Result(0, api.OK)},
		{west, at(end, end), at(-end, 1-end), expect.Result(api.Red, api.OK)},
		{west, at(-end, 0), at(end, 0), expect.Result(0, api.OK)},
		{thin, at(-end, -end), at(end-2, end), expect.Result(api.Green, api.OK)},
		{thin, at(-end, -end), at(end-1, end), expect.Result(0, api.OK)},
		{white(2828427), at(-end, -end), at(end, end), expect.Result(0, api.OK)},
		{white(2828428), at(-end, -end), at(end, end), expect.Result(api.White, api.OK)},
	} {
		if got := expect.Result(sector.Seen(x.list, x.from, x.p)); got != x.want {
			t.Errorf("limit %d: %v", i, got)
		}
	}
}

// P5.1: no function changes its arguments, and a normal form shares no memory with the light.
func TestArgumentsStay(t *testing.T) {
	for _, list := range lights() {
		before := slices.Clone(list)
		sector.Valid(list)
		sector.Color(list, at(3, -1))
		sector.Holds(list, list, api.Red)
		sector.Safer(list, list)
		sector.Seen(list, at(0, 0), at(3, -1))
		n, _ := sector.Normal(list)
		for i := range n {
			n[i] = api.Sector{}
		}
		if !slices.Equal(list, before) {
			t.Errorf("%v was changed to %v", before, list)
		}
	}
}
