package feature_test

import (
	"slices"
	"testing"

	"seamark/api"
	"seamark/feature"
	"seamark/internal/expect"
	"seamark/internal/sample"
)

// ofTwo are the functions of two features.
var ofTwo = []func(f, g api.Feature) (bool, api.Errno){feature.Holds, feature.Stands, feature.Touch}

// P7.1: the examples of the chapter.
func TestExamples(t *testing.T) {
	d, e := wreck(0, 0, 10, 50), disc(api.KindSounding, 3, 4, 5, 60)
	a := area(40, rect(-20, 20, -20, 20))
	for i, x := range []struct{ got, want bool }{
		{expect.OK[bool](t)(feature.Covers(d, at(6, 8))), true}, {expect.OK[bool](t)(feature.Covers(d, at(7, 8))), false},
		{expect.OK[bool](t)(feature.Holds(d, e)), true}, {expect.OK[bool](t)(feature.Holds(e, d)), false},
		{expect.OK[bool](t)(feature.Holds(a, d)), true}, {expect.OK[bool](t)(feature.Holds(d, a)), false},
		{expect.OK[bool](t)(feature.Stands(e, d)), true}, {expect.OK[bool](t)(feature.Stands(d, e)), false}, {expect.OK[bool](t)(feature.Stands(e, a)), true},
		{expect.OK[bool](t)(feature.Touch(d, disc(api.KindSounding, 20, 0, 10, 0))), true}, {expect.OK[bool](t)(feature.Touch(d, disc(api.KindSounding, 20, 0, 9, 0))), false},
	} {
		if x.got != x.want {
			t.Errorf("example %d: %v", i, x.got)
		}
	}
	list := numbered(1, d, e)
	if n := expect.OK[int](t)(feature.Shown(list, at(0, 0))); n != 50 {
		t.Errorf("Shown at (0, 0): %d", n)
	}
	if n := expect.OK[int](t)(feature.Shown(list, at(9, 9))); n != 100000 {
		t.Errorf("Shown at (9, 9): %d", n)
	}
	if b := expect.OK[api.Box](t)(feature.Box(e)); b != box(-2, 8, -1, 9) {
		t.Errorf("Box: %v", b)
	}
}

// P7.1, G1: features of all kinds are valid, up to the limits of each field.
func TestValid(t *testing.T) {
	for _, f := range slices.Concat(everything(), one()) {
		if !feature.Valid(f) {
			t.Errorf("%v is not valid", f)
		}
	}
	for _, f := range one() {
		for _, change := range []func(f *api.Feature){
			func(f *api.Feature) { f.ID = 1 }, func(f *api.Feature) { f.ID = api.MaxID },
			func(f *api.Feature) { f.Symbol = 0 }, func(f *api.Feature) { f.Symbol = api.MaxSymbol },
			func(f *api.Feature) { f.Depth = 0 },
		} {
			if g := with(f, change); !feature.Valid(g) {
				t.Errorf("%v is not valid", g)
			}
		}
		if isDisc(f) || f.Kind == api.KindArea {
			if g := with(f, func(f *api.Feature) { f.Depth = deep }); !feature.Valid(g) {
				t.Errorf("%v is not valid", g)
			}
		}
		// Empty lists are the same as none.
		g := f
		if len(g.Area) == 0 {
			g.Area = []api.Point{}
		}
		if len(g.Sectors) == 0 {
			g.Sectors = []api.Sector{}
		}
		if !feature.Valid(g) {
			t.Errorf("%v is not valid with empty lists", g)
		}
	}
}

// P7.1, G1: discs are valid as long as they stay within the limits of places, on each side.
func TestValidDiscs(t *testing.T) {
	good, bad := 0, 0
	for _, kind := range discKinds {
		for _, r := range []int{-1, 0, 1, radius - 1, radius, radius + 1} {
			end := most - r
			list := []int{-most - 1, -most, -end - 1, -end, 0, end, end + 1, most, most + 1}
			for _, x := range list {
				for _, y := range list {
					want := r >= 0 && r <= radius && -end <= x && x <= end && -end <= y && y <= end
					if got := feature.Valid(disc(kind, x, y, r, 0)); got != want {
						t.Errorf("the disc about (%d, %d) with %d is valid: %v", x, y, r, got)
					}
					if want {
						good++
					} else {
						bad++
					}
				}
			}
		}
	}
	if good < 100 || bad < 100 {
		t.Errorf("%d discs are valid, %d are not", good, bad)
	}
}

// P7.1, G1: lights can be at the limits of places, with as many sectors as possible; polygons can have all corners.
func TestValidLightsAndPolygons(t *testing.T) {
	round := make([]api.Point, api.MaxCorners)
	for i := range round {
		round[i] = at(i, i*i)
	}
	for _, f := range []api.Feature{
		light(most, most), light(-most, -most, twelve()...), light(0, 0, full(api.Green, api.MaxDist)),
		area(deep, round), zone(round), area(0, rect(-most, most, -most, most)),
	} {
		if !feature.Valid(f) {
			t.Errorf("%v is not valid", f)
		}
	}
}

// P7.1, G1: features that are not valid are not, and each function refuses them in each position, with nothing but the error.
func TestNotFeatures(t *testing.T) {
	for _, bad := range notFeatures() {
		if feature.Valid(bad) {
			t.Errorf("%v is valid", bad)
		}
		for _, p := range path(0, 0, 3, 4, most, -most) {
			if got := expect.Result(feature.Covers(bad, p)); got != expect.Fails[bool](api.ErrArg) {
				t.Errorf("Covers of %v and %v: %v", bad, p, got)
			}
		}
		if got := expect.Result(feature.Box(bad)); got != expect.Fails[api.Box](api.ErrArg) {
			t.Errorf("Box of %v: %v", bad, got)
		}
		for _, other := range append(one(), bad) {
			for i, ask := range ofTwo {
				if expect.Result(ask(bad, other)) != expect.Fails[bool](api.ErrArg) || expect.Result(ask(other, bad)) != expect.Fails[bool](api.ErrArg) {
					t.Errorf("function %d takes %v with %v", i, bad, other)
				}
			}
		}
	}
}

// P7.1, G2: lists of valid features with rising IDs are valid, as long as they are not too long.
func TestList(t *testing.T) {
	whole := everything()
	for _, list := range [][]api.Feature{
		nil, {}, numbered(1, whole...), numbered(api.MaxID-1, whole[0], whole[1]), numbered(api.MaxID, whole[3]),
		numbered(1, slices.Repeat(whole[:1], api.MaxFeatures)...), numbered(api.MaxID-api.MaxFeatures+1, slices.Repeat(whole[:3], api.MaxFeatures/3)...),
		append(numbered(5, whole[:3]...), numbered(90, whole[:3]...)...),
	} {
		if !feature.List(list) {
			t.Errorf("a list of %d features is not valid", len(list))
		}
	}
	for _, list := range notLists() {
		if feature.List(list) {
			t.Errorf("%v is valid", list)
		}
	}
}

// changes are one for each field, and for each position of a list.
func changes() []func(f *api.Feature) {
	return []func(f *api.Feature){
		func(f *api.Feature) { f.ID++ }, func(f *api.Feature) { f.Kind++ }, func(f *api.Feature) { f.At.X++ }, func(f *api.Feature) { f.At.Y++ },
		func(f *api.Feature) { f.Radius++ }, func(f *api.Feature) { f.Depth-- }, func(f *api.Feature) { f.Symbol-- },
		func(f *api.Feature) { f.Area = append(f.Area, at(0, 0)) }, func(f *api.Feature) { f.Sectors = append(f.Sectors, api.Sector{}) },
		func(f *api.Feature) { f.Area = slices.Insert(f.Area, 0, at(0, 0)) }, func(f *api.Feature) { f.Sectors = slices.Insert(f.Sectors, 0, api.Sector{}) },
	}
}

// changesOfLists are those of the lists of f, which are not empty.
func changesOfLists(f api.Feature) []func(f *api.Feature) {
	var out []func(f *api.Feature)
	for i := range f.Area {
		out = append(out, func(f *api.Feature) { f.Area[i].X++ }, func(f *api.Feature) { f.Area[i].Y-- }, func(f *api.Feature) { f.Area = slices.Delete(f.Area, i, i+1) })
	}
	for i := range f.Sectors {
		out = append(out,
			func(f *api.Feature) { f.Sectors[i].From.X++ }, func(f *api.Feature) { f.Sectors[i].From.Y++ }, func(f *api.Feature) { f.Sectors[i].To.X++ }, func(f *api.Feature) { f.Sectors[i].To.Y++ },
			func(f *api.Feature) { f.Sectors[i].Color++ }, func(f *api.Feature) { f.Sectors[i].Range-- }, func(f *api.Feature) { f.Sectors = slices.Delete(f.Sectors, i, i+1) })
	}
	return out
}

// P7.1, G3: features are equal if all fields are, whether they are valid or not.
func TestSame(t *testing.T) {
	strange := api.Feature{ID: -5, Kind: 9, At: at(1, 2), Radius: -3, Area: bent(), Depth: -1, Symbol: -7, Sectors: twelve()}
	for _, f := range append(one(), api.Feature{}, strange, light(1, 1, twelve()...), area(5, path(3, 3))) {
		if !feature.Same(f, f) || !feature.Same(f, copied(f)) {
			t.Errorf("%v is not equal to itself", f)
		}
		for i, change := range append(changes(), changesOfLists(f)...) {
			g := with(f, change)
			if feature.Same(f, g) || feature.Same(g, f) {
				t.Errorf("change %d: %v and %v are equal", i, f, g)
			}
		}
	}
	empty := api.Feature{Area: []api.Point{}, Sectors: []api.Sector{}}
	if !feature.Same(api.Feature{}, empty) || !feature.Same(empty, api.Feature{}) {
		t.Error("an empty list and none are not equal")
	}
	// sectors that show the same are not equal
	if feature.Same(light(0, 0, full(1, 5)), light(0, 0, arc(1, 5, at(2, 0), at(2, 0)))) {
		t.Error("sectors with other directions are equal")
	}
}

// P7.1: points that are no places, and lists that are not valid, are refused.
func TestErrArg(t *testing.T) {
	list := numbered(1, one()...)
	for _, p := range notPlaces() {
		for _, f := range list {
			if got := expect.Result(feature.Covers(f, p)); got != expect.Fails[bool](api.ErrArg) {
				t.Errorf("Covers of %v and %v: %v", f, p, got)
			}
		}
		for _, l := range [][]api.Feature{nil, list, list[:1]} {
			if got := expect.Result(feature.Shown(l, p)); got != expect.Fails[int](api.ErrArg) {
				t.Errorf("Shown of %v at %v: %v", l, p, got)
			}
		}
	}
	for _, l := range notLists() {
		for _, p := range path(0, 0, most, most, most+1, 0) {
			if got := expect.Result(feature.Shown(l, p)); got != expect.Fails[int](api.ErrArg) {
				t.Errorf("Shown of %v at %v: %v", l, p, got)
			}
		}
	}
}

// P7.1, G4: what features cover is what the oracle says, at their ends, beside them, and elsewhere.
func TestCovers(t *testing.T) {
	counts := map[bool]int{}
	for _, f := range everything() {
		for _, p := range append(places(), beside(f)...) {
			want := covered(f, p)
			if got := expect.OK[bool](t)(feature.Covers(f, p)); got != want {
				t.Errorf("Covers of %v and %v: %v", f, p, got)
			}
			counts[want]++
		}
	}
	if counts[true] < 5000 || counts[false] < 5000 {
		t.Errorf("places are covered, or not: %v", counts)
	}
}

// P7.1, G5, G6 and G9: what two features are to each other is what the oracle says.
func TestPairs(t *testing.T) {
	var holds, stands, touches [2]int
	count := func(list *[2]int, is bool) {
		if is {
			list[1]++
		} else {
			list[0]++
		}
	}
	eachPair(func(f, g api.Feature) {
		want := held(t, f, g)
		count(&holds, want)
		if got := expect.OK[bool](t)(feature.Holds(f, g)); got != want {
			t.Errorf("Holds of %v and %v: %v", f, g, got)
		}
		want = standing(t, f, g)
		count(&stands, want)
		if got := expect.OK[bool](t)(feature.Stands(f, g)); got != want {
			t.Errorf("Stands of %v and %v: %v", f, g, got)
		}
		want = touching(t, f, g)
		count(&touches, want)
		if got := expect.OK[bool](t)(feature.Touch(f, g)); got != want {
			t.Errorf("Touch of %v and %v: %v", f, g, got)
		}
	})
	for i, list := range [][2]int{holds, stands, touches} {
		if list[0] < 1000 || list[1] < 500 {
			t.Errorf("answers of function %d: %d are false, %d are true", i, list[0], list[1])
		}
	}
}

// P7.1, G5 and G9: features that only just hold or touch others, also where their borders do not pass places.
func TestHoldsAndTouch(t *testing.T) {
	// The line 3 x + 4 y = 25 only just meets the disc about (0, 0) with 5, at (3, 4); it is an edge of both.
	below, above := area(0, path(-25, -25, 31, -17, -5, 10)), area(0, path(-5, 10, 31, -17, 40, 40))
	for i, x := range []struct {
		f, g                 api.Feature
		holds, held, touches bool
	}{
		{below, wreck(0, 0, 5, 0), true, false, true},
		{below, wreck(0, 0, 6, 0), false, false, true},
		{above, wreck(0, 0, 5, 0), false, false, true},
		{above, wreck(0, 0, 4, 0), false, false, false},
		{below, above, false, false, true},
		{above, wreck(3, 4, 0, 0), true, false, true},
		{above, wreck(3, 3, 0, 0), false, false, false},
		{wreck(0, 0, 5, 0), wreck(3, 4, 0, 0), true, false, true},
		{wreck(0, 0, 5, 0), wreck(4, 4, 0, 0), false, false, false},
		{wreck(0, 0, 10, 0), wreck(3, 4, 5, 0), true, false, true},
		{wreck(0, 0, 10, 0), wreck(3, 4, 6, 0), false, false, true},
		{wreck(0, 0, 10, 0), wreck(9, 12, 5, 0), false, false, true},
		{wreck(0, 0, 10, 0), wreck(9, 12, 4, 0), false, false, false},
		{wreck(2, 2, 0, 0), wreck(2, 2, 0, 0), true, true, true},
		{wreck(0, 0, 5, 0), area(0, path(-4, -3, 5, 0, 3, 4, -3, 4)), true, false, true},
		{wreck(0, 0, 5, 0), area(0, path(-4, -3, 5, 1, 3, 4, -3, 4)), false, false, true},
		{wreck(0, 0, 5, 0), zone(path(5, 0, 9, -3, 9, 3)), false, false, true},
		{wreck(0, 0, 4, 0), zone(path(5, 0, 9, -3, 9, 3)), false, false, false},
		{wreck(3, 3, 0, 0), area(0, bent()), false, false, false},
		{wreck(3, 3, 1, 0), area(0, bent()), false, false, true},
		{area(0, bent()), wreck(1, 1, 1, 0), true, false, true},
		{area(0, bent()), wreck(1, 1, 2, 0), false, false, true},
		{area(0, bent()), wreck(2, 2, 0, 0), true, false, true},
		{area(0, bent()), area(0, path(0, 0, 4, 0, 0, 4)), true, false, true},
		{area(0, bent()), area(0, path(0, 0, 4, 0, 1, 4)), false, false, true},
		{area(0, bent()), zone(bent()), true, true, true},
		{area(0, bent()), zone(path(2, 2, 3, 3, 2, 3)), false, false, true},
		{area(0, bent()), zone(path(3, 3, 4, 4, 3, 4)), false, false, false},
		{area(0, bent()), light(1, 1, full(1, 9)), true, false, false},
		{wreck(1, 1, 3, 0), light(1, 1, full(1, 9)), true, false, false},
		{light(1, 1), light(2, 2), true, true, false},
		{light(1, 1), light(1, 1), true, true, false},
		{wreck(most-radius, 0, radius, 0), wreck(most-3*radius, 0, radius, 0), false, false, true},
		{wreck(most-radius, 0, radius, 0), wreck(most-3*radius-1, 0, radius, 0), false, false, false},
		{area(0, rect(-most, most, -most, most)), wreck(radius-most, most-radius, radius, 0), true, false, true},
		{area(0, rect(-most, most, -most, most)), wreck(most, most, 0, 0), true, false, true},
	} {
		if is := expect.OK[bool](t)(feature.Holds(x.f, x.g)); is != x.holds {
			t.Errorf("case %d: Holds: %v", i, is)
		}
		if is := expect.OK[bool](t)(feature.Holds(x.g, x.f)); is != x.held {
			t.Errorf("case %d: Holds, exchanged: %v", i, is)
		}
		if expect.OK[bool](t)(feature.Touch(x.f, x.g)) != x.touches || expect.OK[bool](t)(feature.Touch(x.g, x.f)) != x.touches {
			t.Errorf("case %d: Touch is not %v in both orders", i, x.touches)
		}
	}
}

// P7.1, G6: what stands for a feature has its points and is not deeper; what stands for a light looks nowhere safer.
func TestStands(t *testing.T) {
	east, north, west := at(1, 0), at(0, 1), at(-1, 0)
	white, red := full(api.White, 5), full(api.Red, 5)
	for i, x := range []struct {
		f, g api.Feature
		want bool
	}{
		{wreck(0, 0, 5, 9), wreck(0, 0, 5, 9), true},
		{wreck(0, 0, 5, 9), disc(api.KindBuoy, 0, 0, 6, 8), true},
		{wreck(0, 0, 5, 9), wreck(0, 0, 5, 10), false},
		{wreck(0, 0, 5, 9), wreck(0, 0, 4, 9), false},
		{wreck(0, 0, 5, 9), area(9, rect(-5, 5, -5, 5)), true},
		{wreck(0, 0, 5, 9), area(10, rect(-5, 5, -5, 5)), false},
		{wreck(0, 0, 5, 9), area(9, rect(-5, 4, -5, 5)), false},
		{wreck(0, 0, 5, 0), zone(rect(-5, 5, -5, 5)), true},
		{zone(rect(-3, 3, -4, 4)), wreck(0, 0, 5, 0), true},
		{zone(rect(-3, 3, -4, 4)), wreck(0, 0, 5, 1), false},
		{zone(rect(-3, 3, -4, 4)), area(0, rect(-3, 3, -4, 4)), true},
		{area(deep, bent()), wreck(2, 2, 3, deep), true},
		{area(deep, bent()), wreck(2, 2, 2, 0), false},
		{wreck(0, 0, 0, 9), light(0, 0, white), false},
		{wreck(0, 0, 0, 0), light(0, 0), false},
		{light(0, 0, white), wreck(0, 0, 0, 0), false},
		{light(0, 0), wreck(0, 0, 9, 0), false},
		{light(0, 0), zone(rect(-3, 3, -3, 3)), false},
		{light(0, 0), light(0, 0), true},
		{light(0, 0), light(0, 1), false},
		{light(0, 0), light(1, 0), false},
		{light(0, 0, white), light(0, 0), true},
		{light(0, 0), light(0, 0, white), false},
		{light(0, 0), light(0, 0, red), true},
		{light(0, 0, white), light(0, 0, red), true},
		{light(0, 0, red), light(0, 0, white), false},
		{light(0, 0, white), light(0, 0, full(api.White, 6)), false},
		{light(0, 0, white), light(0, 0, full(api.Red, 99)), true},
		{light(0, 0, white), light(0, 0, arc(api.White, 5, east, north), arc(api.Red, 9, north, east)), true},
		{light(0, 0, arc(api.White, 5, east, west)), light(0, 0, arc(api.White, 5, at(0, -1), north)), false},
		{light(0, 0, white), light(0, 0, arc(api.White, 5, west, east), arc(api.White, 5, east, west)), true},
	} {
		if got := expect.OK[bool](t)(feature.Stands(x.f, x.g)); got != x.want {
			t.Errorf("case %d: %v", i, got)
		}
		// Neither the ID nor the Symbol nor which of its kinds a shape has matters.
		other := with(x.g, func(g *api.Feature) { g.ID, g.Symbol = 999, 99 })
		if isDisc(other) {
			other.Kind = api.KindBuoy
		}
		if got := expect.OK[bool](t)(feature.Stands(x.f, other)); got != x.want {
			t.Errorf("case %d with another number: %v", i, got)
		}
	}
}

// P7.1, G7: the shown depths of lists, up to those with 300 features, are those of the oracle.
func TestShown(t *testing.T) {
	r := chance()
	counts := map[int]int{}
	for i := range 40 {
		var list []api.Feature
		for _, f := range [][]api.Feature{small(), everything()}[i%2] {
			if r.IntN(1+i%5*8) < 3 {
				list = append(list, f)
			}
		}
		list = numbered(1+r.IntN(1000), list...)
		for _, p := range sample.Every(places(), 5) {
			want := shownAt(list, p)
			if got := expect.OK[int](t)(feature.Shown(list, p)); got != want {
				t.Errorf("Shown of %v at %v: %d, and not %d", list, p, got, want)
			}
			counts[want]++
		}
	}
	for _, depth := range []int{0, 7, 8, deep} {
		if counts[depth] < 100 {
			t.Errorf("%d is shown only %d times", depth, counts[depth])
		}
	}
	list := slices.Repeat([]api.Feature{wreck(0, 0, 5, 9), area(8, bent()), light(0, 0)}, api.MaxFeatures/3)
	list = numbered(1, append(list[1:], wreck(3, 0, 1, 7))...)
	for p, want := range map[api.Point]int{at(0, 0): 8, at(-5, 0): 9, at(3, 0): 7, at(4, 0): 7, at(6, 0): deep} {
		if got := expect.OK[int](t)(feature.Shown(list, p)); got != want {
			t.Errorf("Shown of 300 features at %v: %d", p, got)
		}
	}
}

// P7.1, G8: boxes are those of the ends of features.
func TestBox(t *testing.T) {
	for _, f := range everything() {
		if got := expect.OK[api.Box](t)(feature.Box(f)); got != boxOf(f) {
			t.Errorf("Box of %v: %v", f, got)
		}
	}
	for i, x := range []struct {
		f    api.Feature
		want api.Box
	}{
		{wreck(3, -4, 0, 0), box(3, 3, -4, -4)}, {wreck(3, -4, 2, 0), box(1, 5, -6, -2)}, {light(3, -4, twelve()...), box(3, 3, -4, -4)},
		{wreck(most-radius, radius-most, radius, 0), box(most-2*radius, most, -most, 2*radius-most)}, {light(-most, most), box(-most, -most, most, most)},
		{area(5, bent()), box(0, 4, 0, 4)}, {zone(path(-7, 0, 1, -9, 5, 3, 2, 8)), box(-7, 5, -9, 8)},
	} {
		if got := expect.OK[api.Box](t)(feature.Box(x.f)); got != x.want {
			t.Errorf("box %d: %v", i, got)
		}
	}
}

// P7.1: no function changes its arguments.
func TestArgumentsStay(t *testing.T) {
	for _, f := range everything() {
		before, other := copied(f), area(5, bent())
		feature.Valid(f)
		feature.Same(f, other)
		feature.Covers(f, at(1, 1))
		for _, ask := range ofTwo {
			ask(f, other)
			ask(other, f)
			ask(f, f)
		}
		list := numbered(1, f, other)
		feature.List(list)
		feature.Shown(list, at(1, 1))
		feature.Box(f)
		if !feature.Same(f, before) || !slices.Equal(other.Area, bent()) || list[0].ID != 1 || !slices.Equal(list[0].Area, before.Area) {
			t.Errorf("%v was changed to %v", before, f)
		}
	}
}
