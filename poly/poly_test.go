package poly_test

import (
	"math/big"
	"math/rand/v2"
	"slices"
	"testing"

	"seamark/api"
	"seamark/internal/expect"
	"seamark/internal/sample"
	"seamark/poly"
)

// P3.1: the examples of the chapter.
func TestExamples(t *testing.T) {
	l := bent()
	for _, x := range []struct {
		q    api.Point
		want int
	}{{at(1, 3), 1}, {at(2, 3), 0}, {at(3, 3), -1}} {
		if side := expect.OK[int](t)(poly.In(x.q, l)); side != x.want {
			t.Errorf("In of %v: %d", x.q, side)
		}
	}
	if area := expect.OK[int](t)(poly.Area(l)); area != 24 {
		t.Errorf("Area: %d", area)
	}
	for _, x := range []struct {
		q    []api.Point
		want bool
	}{{path(0, 0, 4, 0, 0, 4), true}, {path(0, 0, 4, 0, 1, 4), false}} {
		if holds := expect.OK[bool](t)(poly.Holds(l, x.q)); holds != x.want {
			t.Errorf("Holds of %v: %v", x.q, holds)
		}
	}
	for _, x := range []struct {
		q       api.Point
		r, want int
	}{{at(1, 1), 1, 1}, {at(1, 1), 2, 0}, {at(4, 4), 1, -1}, {at(4, 4), 2, 0}} {
		if disc := expect.OK[int](t)(poly.Disc(l, x.q, x.r)); disc != x.want {
			t.Errorf("Disc about %v with %d: %d", x.q, x.r, disc)
		}
	}
	if hull := expect.OK[[]api.Point](t)(poly.Hull(l)); !slices.Equal(hull, path(0, 0, 4, 0, 4, 2, 2, 4, 0, 4)) {
		t.Errorf("Hull: %v", hull)
	}
	b := expect.OK[api.Box](t)(poly.Box(l))
	if b != box(0, 4, 0, 4) {
		t.Errorf("Box: %v", b)
	}
	if rect := expect.OK[[]api.Point](t)(poly.Rect(b)); !slices.Equal(rect, path(0, 0, 4, 0, 4, 4, 0, 4)) {
		t.Errorf("Rect: %v", rect)
	}
}

// P3.1, C1: of all lists of up to five places of a square, and of longer lists, those are valid that the oracle takes.
func TestValid(t *testing.T) {
	count := 0
	compare := func(list []api.Point) {
		want := isPolygon(list)
		if want {
			count++
		}
		if poly.Valid(list) != want {
			t.Errorf("%v is valid: %v", list, !want)
		}
	}
	for n := range 6 {
		eachList(n, square(0, 2), compare)
	}
	r := chance()
	for i := range 4000 {
		list := make([]api.Point, 3+i%5)
		for k := range list {
			list[k] = smallPlace(r)()
		}
		compare(counter(list))
	}
	if count < 500 {
		t.Errorf("only %d lists are polygons", count)
	}
}

// P3.1, C1: polygons of any size are valid, up to 24 corners and to the limits of places; from another corner on, or the other way round, they are not.
func TestValidShapes(t *testing.T) {
	longest := 0
	for _, p := range slices.Concat(smallShapes(), wideShapes(), [][]api.Point{bent(), round(24), path(0, 0, 1, 0, 0, 1)}) {
		longest = max(longest, len(p))
		if !poly.Valid(p) {
			t.Errorf("%v is not valid", p)
		}
		for i := 1; i < len(p); i++ {
			if turned := slices.Concat(p[i:], p[:i]); poly.Valid(turned) {
				t.Errorf("%v is valid", turned)
			}
		}
		back := slices.Clone(p)
		slices.Reverse(back[1:])
		if poly.Valid(back) {
			t.Errorf("%v is valid", back)
		}
	}
	if longest != api.MaxCorners {
		t.Errorf("no polygon has more than %d corners", longest)
	}
}

// P3.1, C1: what is no polygon is not valid, and refused in every position, with nothing but the error.
func TestNotPolygons(t *testing.T) {
	good := bent()
	for _, p := range notPolygons() {
		if poly.Valid(p) {
			t.Errorf("%v is valid", p)
		}
		for _, q := range [][]api.Point{good, p} {
			for i, pair := range [][2][]api.Point{{p, q}, {q, p}} {
				if is, e := poly.Touch(pair[0], pair[1]); is || e != api.ErrArg {
					t.Errorf("Touch takes %v in position %d: %v, %v", p, i, is, e)
				}
				if is, e := poly.Holds(pair[0], pair[1]); is || e != api.ErrArg {
					t.Errorf("Holds takes %v in position %d: %v, %v", p, i, is, e)
				}
			}
		}
		if n, e := poly.In(at(1, 1), p); n != 0 || e != api.ErrArg {
			t.Errorf("In of %v: %d, %v", p, n, e)
		}
		if n, e := poly.Area(p); n != 0 || e != api.ErrArg {
			t.Errorf("Area of %v: %d, %v", p, n, e)
		}
		if n, e := poly.Disc(p, at(9, 9), 0); n != 0 || e != api.ErrArg {
			t.Errorf("Disc of %v: %d, %v", p, n, e)
		}
		if b, e := poly.Box(p); b != (api.Box{}) || e != api.ErrArg {
			t.Errorf("Box of %v: %v, %v", p, b, e)
		}
	}
}

// P3.1, C2 and C6: places and radii are valid up to their limits, and not beyond them.
func TestNotPlaces(t *testing.T) {
	for _, q := range notPlaces() {
		if n, e := poly.In(q, bent()); n != 0 || e != api.ErrArg {
			t.Errorf("In of %v: %d, %v", q, n, e)
		}
		if n, e := poly.Disc(bent(), q, 1); n != 0 || e != api.ErrArg {
			t.Errorf("Disc about %v: %d, %v", q, n, e)
		}
	}
	for _, r := range []int{-1, api.MaxDist + 1, -1 << 63, 1<<63 - 1, 1 << 32} {
		for _, q := range []api.Point{at(1, 1), at(most, most)} {
			if n, e := poly.Disc(bent(), q, r); n != 0 || e != api.ErrArg {
				t.Errorf("Disc with %d: %d, %v", r, n, e)
			}
		}
	}
	for _, q := range whole() {
		if n := expect.OK[int](t)(poly.In(q, bent())); n != -1 {
			t.Errorf("In of %v: %d", q, n)
		}
		if n := expect.OK[int](t)(poly.Disc(bent(), q, api.MaxDist)); n != 0 {
			t.Errorf("Disc about %v: %d", q, n)
		}
	}
}

// P3.1, C2: places are inside, on the border or outside as the oracle says.
func TestIn(t *testing.T) {
	count := map[int]int{}
	eachShape(func(p, places []api.Point) {
		for _, q := range places {
			want := sideOf(exact(q), p)
			count[want]++
			if side := expect.OK[int](t)(poly.In(q, p)); side != want {
				t.Errorf("In of %v and %v: %d", q, p, side)
			}
		}
	})
	if count[1] < 500 || count[0] < 500 || count[-1] < 500 {
		t.Errorf("too few places: %v", count)
	}
}

// P3.1, C3: the area is the sum of trapezoids; of a small polygon, it follows from the places inside and on the border.
func TestArea(t *testing.T) {
	eachShape(func(p, places []api.Point) {
		area := expect.OK[int](t)(poly.Area(p))
		if area != trapezoids(p) {
			t.Errorf("Area of %v: %d", p, area)
		}
		if !isSmall(p) {
			return
		}
		inside, border := 0, 0
		for _, q := range places {
			switch sideOf(exact(q), p) {
			case 1:
				inside++
			case 0:
				border++
			}
		}
		if area != 2*inside+border-2 { // Pick's theorem
			t.Errorf("Area of %v: %d, with %d places inside and %d on the border", p, area, inside, border)
		}
	})
	if area := expect.OK[int](t)(poly.Area(whole())); area != 8000000000000 {
		t.Errorf("Area: %d", area)
	}
}

// P3.1, C4 and C5: which polygons touch, and which ones hold which, is what the oracle says.
func TestTouchAndHolds(t *testing.T) {
	touch, apart, hold := 0, 0, 0
	eachPair(func(p, q []api.Point) {
		wantTouch, wantHolds := touchAny(p, q), holdsAll(p, q)
		if is := expect.OK[bool](t)(poly.Touch(p, q)); is != wantTouch {
			t.Errorf("Touch of %v and %v: %v", p, q, is)
		}
		if is := expect.OK[bool](t)(poly.Holds(p, q)); is != wantHolds {
			t.Errorf("Holds of %v and %v: %v", p, q, is)
		}
		switch {
		case wantHolds:
			hold++
		case wantTouch:
			touch++
		default:
			apart++
		}
	})
	if hold < 500 || touch < 500 || apart < 200 {
		t.Errorf("only %d pairs hold, %d touch, and %d are apart", hold, touch, apart)
	}
}

// P3.1, C4 and C5: polygons in notches of others, with edges along others' edges, and through their corners.
func TestNotches(t *testing.T) {
	notch := path(0, 0, 10, 0, 10, 10, 5, 5, 0, 10)
	comb := path(0, 0, 9, 0, 9, 9, 7, 9, 7, 3, 5, 3, 5, 9, 4, 9, 4, 3, 2, 3, 2, 9, 0, 9)
	hook := path(0, 0, 12, 0, 12, 6, 10, 6, 8, 5, 10, 4, 10, 2, 2, 2, 2, 10, 8, 10, 8, 12, 0, 12)
	for i, x := range []struct {
		p, q         []api.Point
		touch, holds bool
	}{
		{bent(), path(2, 2, 4, 0, 4, 2), true, true},                             // from the corner that bends inward along the edge before it
		{bent(), path(0, 4, 2, 2, 2, 4), true, true},                             // and along the edge after it
		{bent(), path(2, 2, 4, 2, 4, 4), true, false},                            // on the other side of the edge before it
		{bent(), path(2, 2, 4, 4, 2, 4), true, false},                            // and of the edge after it
		{hook, path(1, 1, 11, 1, 11, 5, 8, 5, 8, 10, 7, 11, 1, 11), true, false}, // around the bay, and over its mouth from the tip
		{hook, path(1, 1, 11, 1, 11, 5, 10, 5, 10, 2, 2, 2, 1, 11), true, true},  // around the bay, along its edges
		{hook, path(2, 2, 10, 2, 10, 4, 8, 5, 8, 10, 2, 10), true, false},        // the bay itself
		{hook, path(3, 3, 9, 3, 9, 4, 7, 5, 7, 9, 3, 9), false, false},           // in the bay
		{notch, path(0, 0, 10, 0, 5, 5), true, true},                             // a corner on a corner that bends inward
		{notch, path(0, 4, 10, 4, 10, 5, 0, 5), true, true},                      // an edge through that corner
		{notch, path(0, 4, 10, 4, 10, 6, 0, 5), true, false},                     // an edge beside it
		{notch, path(0, 10, 5, 5, 10, 10), true, false},                          // the notch itself
		{notch, path(4, 8, 5, 7, 6, 8), false, false},                            // in the notch
		{notch, path(4, 8, 5, 5, 6, 8), true, false},                             // in the notch, down to its corner
		{notch, path(0, 0, 10, 0, 10, 10, 0, 10), true, false},                   // across the notch
		{notch, path(6, 6, 9, 0, 9, 9), true, true},                              // along an edge of the notch
		{notch, path(0, 10, 1, 9, 9, 9, 10, 10), true, false},                    // from an edge of the notch to the other one
		{comb, path(0, 3, 9, 3, 9, 4), true, false},                              // along edges, and through teeth
		{comb, path(0, 2, 9, 2, 9, 3, 0, 3), true, true},                         // along edges, below the teeth
		{comb, path(0, 0, 9, 0, 9, 9, 0, 3), true, false},                        // through all teeth
		{comb, path(0, 0, 9, 0, 9, 1, 2, 3, 1, 9), true, true},                   // up to a corner, and into the first tooth
		{comb, path(2, 3, 4, 3, 4, 9, 2, 9), true, false},                        // between teeth, along three edges
		{comb, path(0, 9, 2, 9, 2, 10), true, false},                             // upon a tooth
		{comb, path(2, 4, 4, 4, 4, 8), true, false},                              // between teeth, along one edge
		{comb, path(5, 4, 7, 3, 7, 8), true, false},                              // between teeth, from edge to edge
		{comb, path(5, 1, 8, 3, 8, 9, 7, 9, 7, 3), true, true},                   // beside a gap, along its edge
		{comb, path(4, 0, 6, 2, 5, 3, 5, 8, 4, 5), true, true},                   // in the tooth in the middle
		{comb, path(0, 0, 9, 0, 9, 9, 0, 9), true, false},                        // the box of all
		{comb, path(1, 1, 3, 2, 5, 1, 4, 3, 2, 3), true, true},                   // a notch within, up to the edge
		{comb, path(1, 1, 3, 2, 5, 1, 4, 4, 2, 3), true, false},                  // and beyond it
		{comb, path(-9, -9, -8, 0, -9, 9), false, false},                         // beside all
		{comb, path(-9, 3, 0, 3, -9, 9), true, false},                            // up to an edge, along it if it went on
		{comb, path(-9, -9, 20, -9, 20, 20, -9, 20), true, false},                // around all
	} {
		if is := expect.OK[bool](t)(poly.Touch(x.p, x.q)); is != x.touch {
			t.Errorf("case %d: Touch: %v", i, is)
		}
		if is := expect.OK[bool](t)(poly.Touch(x.q, x.p)); is != x.touch {
			t.Errorf("case %d: Touch, exchanged: %v", i, is)
		}
		if is := expect.OK[bool](t)(poly.Holds(x.p, x.q)); is != x.holds {
			t.Errorf("case %d: Holds: %v", i, is)
		}
	}
}

// radii returns the radii at which an answer about the square of a distance can change, those beside them, and the limits.
func radii(square *big.Rat) []int {
	n := new(big.Int).Quo(square.Num(), square.Denom())
	root := int(n.Sqrt(n).Int64())
	return []int{0, max(0, root-1), root, root + 1, api.MaxDist}
}

// P3.1, C6: discs are in polygons, or have nothing in common with them, as the oracle says.
func TestDisc(t *testing.T) {
	count := map[int]int{}
	eachShape(func(p, places []api.Point) {
		for _, q := range places {
			for _, r := range radii(squareTo(q, p)) {
				want := discOf(p, q, r)
				count[want]++
				if disc := expect.OK[int](t)(poly.Disc(p, q, r)); disc != want {
					t.Errorf("Disc of %v about %v with %d: %d", p, q, r, disc)
				}
			}
		}
	})
	if count[1] < 500 || count[0] < 500 || count[-1] < 500 {
		t.Errorf("too few discs: %v", count)
	}
	for _, x := range []struct{ r, want int }{{0, 1}, {most, 1}, {most + 1, 0}, {api.MaxDist, 0}} {
		if disc := expect.OK[int](t)(poly.Disc(whole(), at(0, 0), x.r)); disc != x.want {
			t.Errorf("Disc with %d: %d", x.r, disc)
		}
	}
}

// checkHull compares the hull of places with the oracle's.
func checkHull(t *testing.T, list []api.Point) {
	t.Helper()
	want, e := hullOf(list), api.OK
	switch {
	case len(want) < 3:
		want, e = nil, api.ErrNone
	case len(want) > api.MaxCorners:
		want, e = nil, api.ErrLimit
	}
	before := slices.Clone(list)
	got, gotE := poly.Hull(list)
	if !slices.Equal(got, want) || gotE != e {
		t.Errorf("Hull of %v: %v, %v", list, got, gotE)
	}
	for i := range got {
		got[i] = at(most, most) // not in the memory of list
	}
	if !slices.Equal(list, before) {
		t.Errorf("Hull has changed %v to %v", before, list)
	}
}

// P3.1, C7: hulls of all sets of nine places, and of places in any order, some of them twice, are those of the oracle.
func TestHull(t *testing.T) {
	for set := 1; set < 512; set++ {
		var list []api.Point
		for i, p := range square(0, 2) {
			if set>>i&1 == 1 {
				list = append(list, p)
			}
		}
		checkHull(t, list)
	}
	r := chance()
	for i := range 300 {
		for _, place := range []func() api.Point{smallPlace(r), widePlace(r)} {
			list := make([]api.Point, 1+i%30)
			for k := range list {
				list[k] = place()
			}
			checkHull(t, append(list, list[r.IntN(len(list))]))
		}
	}
	for _, p := range slices.Concat(tiny(), smallShapes(), wideShapes()) {
		checkHull(t, p)
	}
}

// P3.1, C7: a hull has at most 24 corners, of at most 200 places, which are valid and not all on a line.
func TestHullAtTheLimits(t *testing.T) {
	for n := 3; n < 30; n++ {
		list := slices.Concat(round(n), path(1, 1, n-2, (n-2)*(n-2)), slices.Repeat(path(n-1, (n-1)*(n-1), 0, 0), 80))
		rand.New(rand.NewPCG(1, 2)).Shuffle(len(list), func(i, k int) { list[i], list[k] = list[k], list[i] })
		checkHull(t, list)
	}
	inside := slices.Repeat(path(1, 1, 2, 2), 98)
	if hull := expect.OK[[]api.Point](t)(poly.Hull(append(inside, path(0, 0, 5, 0, 5, 5, 0, 5)...))); !slices.Equal(hull, path(0, 0, 5, 0, 5, 5, 0, 5)) {
		t.Errorf("Hull of 200 places: %v", hull)
	}
	refused := [][]api.Point{
		nil, {},
		append(inside, path(0, 0, 5, 0, 5, 5, 0, 5, 1, 1)...), // 201 places
		slices.Repeat(path(0, 0), 201),                        // all on a line
		slices.Repeat(round(67), 3),                           // with too many corners
	}
	for _, p := range notPlaces() {
		refused = append(refused, []api.Point{p}, append(round(30), p), append([]api.Point{p}, path(0, 0, 1, 0, 0, 1)...))
	}
	for _, list := range refused {
		if hull, e := poly.Hull(list); len(hull) != 0 || e != api.ErrArg {
			t.Errorf("Hull of %d places: %v, %v", len(list), hull, e)
		}
	}
	for _, list := range [][]api.Point{
		path(5, 5), slices.Repeat(path(5, 5), 200), path(-most, -most, most, most), path(0, 0, 3, 1, 6, 2, -3, -1, 6, 2),
		path(7, 1, 7, 9, 7, 4), path(1, 7, 9, 7, 4, 7, 4, 7),
	} {
		if hull, e := poly.Hull(list); len(hull) != 0 || e != api.ErrNone {
			t.Errorf("Hull of %v: %v, %v", list, hull, e)
		}
	}
}

// P3.1, C9: a box has a rectangle if it has several X and several Y; boxes that are not valid are refused ahead of that.
func TestRect(t *testing.T) {
	for _, b := range []api.Box{box(0, 1, 0, 1), box(-most, most, -most, most), box(-3, 5, 7, 8), box(most-1, most, -most, 1-most)} {
		want := path(b.X.Lo, b.Y.Lo, b.X.Hi, b.Y.Lo, b.X.Hi, b.Y.Hi, b.X.Lo, b.Y.Hi)
		if rect := expect.OK[[]api.Point](t)(poly.Rect(b)); !slices.Equal(rect, want) || !isPolygon(rect) {
			t.Errorf("Rect of %v: %v", b, rect)
		}
	}
	for _, b := range []api.Box{{}, box(0, 5, 3, 3), box(3, 3, 0, 5), box(most, most, -most, most), box(-most, most, -most, -most)} {
		if rect, e := poly.Rect(b); len(rect) != 0 || e != api.ErrNone {
			t.Errorf("Rect of %v: %v, %v", b, rect, e)
		}
	}
	for _, n := range sample.Beyond(most) {
		for _, b := range []api.Box{box(min(n, 0), max(n, 0), 0, 1), box(0, 1, min(n, 0), max(n, 0)), box(n, n, n, n), box(n, n, 0, 1), box(0, 0, n, n)} {
			if rect, e := poly.Rect(b); len(rect) != 0 || e != api.ErrArg {
				t.Errorf("Rect of %v: %v, %v", b, rect, e)
			}
		}
	}
	for _, b := range []api.Box{box(1, 0, 0, 1), box(0, 1, 1, 0), box(0, 0, 1, 0), box(1, 0, 0, 0)} {
		if rect, e := poly.Rect(b); len(rect) != 0 || e != api.ErrArg {
			t.Errorf("Rect of %v: %v, %v", b, rect, e)
		}
	}
}
