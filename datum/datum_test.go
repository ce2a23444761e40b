package datum_test

import (
	"testing"

	"seamark/api"
	"seamark/datum"
	"seamark/internal/expect"
	"seamark/internal/sample"
)

// P4.1: the examples of the chapter.
func TestExamples(t *testing.T) {
	m, n := quarter(), moved()
	if !expect.OK[bool](t)(datum.Fits(m, at(3, 4), at(6, 3))) || expect.OK[bool](t)(datum.Fits(m, at(3, 4), at(8, 3))) {
		t.Error("Fits")
	}
	for i, x := range []struct{ got, want expect.Pair[api.Box] }{
		{expect.Result(datum.Apply(m, at(3, 4))), expect.Result(box(5, 7, 2, 4), api.OK)},
		{expect.Result(datum.Carry(m, box(0, 10, 0, 20))), expect.Result(box(-11, 11, -1, 11), api.OK)},
		{expect.Result(datum.Back(m, box(6, 6, 3, 3))), expect.Result(box(2, 4, 3, 5), api.OK)},
	} {
		if x.got != x.want {
			t.Errorf("box %d: %v", i, x.got)
		}
	}
	for i, x := range []struct{ got, want expect.Pair[api.Datum] }{
		{expect.Result(datum.Then(m, n)), expect.Result(api.Datum{B: -million, D: million, C: 15, F: 5, Residue: 3}, api.OK)},
		{expect.Result(datum.Undo(m)), expect.Result(api.Datum{B: million, D: -million, F: 10, Residue: 4}, api.OK)},
	} {
		if x.got != x.want {
			t.Errorf("datum %d: %v", i, x.got)
		}
	}
}

// P4.1, D1: datums are valid up to the limits of all fields, and from the least determinant on.
func TestValid(t *testing.T) {
	good := append(datums(), stretch(500000, 500000), stretch(-500000, -500000), stretch(125000, api.MaxPart),
		api.Datum{B: -500000, D: 500000}, api.Datum{A: 500000, B: 1, E: 500000}, api.Datum{A: 500000, D: -1, E: 500000},
		api.Datum{A: 500001, B: 1, D: 500000, E: 500000}, api.Datum{A: 500000, B: -1, D: 1, E: 500000})
	for _, m := range good {
		if !datum.Valid(m) {
			t.Errorf("%v is not valid", m)
		}
	}
	for _, m := range notDatums() {
		if datum.Valid(m) {
			t.Errorf("%v is valid", m)
		}
	}
	r := chance()
	count := 0
	for range 20000 {
		m := api.Datum{A: sample.UpTo(r, 1000000), B: sample.UpTo(r, 1000000), D: sample.UpTo(r, 1000000), E: sample.UpTo(r, 1000000)}
		if datum.Valid(m) != isDatum(m) {
			t.Errorf("%v is valid: %v", m, !isDatum(m))
		}
		if isDatum(m) {
			count++
		}
	}
	if count < 2000 {
		t.Errorf("only %d datums are valid", count)
	}
}

// P4.1: a datum that is not valid is refused in every position, ahead of ErrRange and ErrNone.
func TestErrArgOfDatums(t *testing.T) {
	noBox, noDatum := expect.Fails[api.Box](api.ErrArg), expect.Fails[api.Datum](api.ErrArg)
	for _, m := range notDatums() {
		if fits, e := datum.Fits(m, at(0, 0), at(0, 0)); fits || e != api.ErrArg {
			t.Errorf("Fits of %v: %v, %v", m, fits, e)
		}
		if got := expect.Result(datum.Undo(m)); got != noDatum {
			t.Errorf("Undo of %v: %v", m, got)
		}
		for _, n := range []api.Datum{quarter(), stretch(api.MaxPart, api.MaxPart), m} {
			if expect.Result(datum.Then(m, n)) != noDatum || expect.Result(datum.Then(n, m)) != noDatum {
				t.Errorf("Then takes %v with %v", m, n)
			}
		}
		for _, p := range []api.Point{at(0, 0), at(most, most)} {
			if got := expect.Result(datum.Apply(m, p)); got != noBox {
				t.Errorf("Apply of %v to %v: %v", m, p, got)
			}
			if expect.Result(datum.Carry(m, only(p))) != noBox || expect.Result(datum.Back(m, only(p))) != noBox {
				t.Errorf("Carry or Back takes %v with %v", m, p)
			}
		}
	}
}

// P4.1: places and boxes that are not valid are refused, ahead of ErrRange and ErrNone.
func TestErrArgOfPlacesAndBoxes(t *testing.T) {
	refused := expect.Fails[api.Box](api.ErrArg)
	for _, m := range []api.Datum{quarter(), moved(), stretch(api.MaxPart, api.MaxPart), {A: million, E: million, C: api.MaxMove}} {
		for _, p := range notPlaces() {
			for _, q := range []api.Point{at(0, 0), at(most, most), p} {
				if fits, e := datum.Fits(m, p, q); fits || e != api.ErrArg {
					t.Errorf("Fits of %v and %v: %v, %v", p, q, fits, e)
				}
				if fits, e := datum.Fits(m, q, p); fits || e != api.ErrArg {
					t.Errorf("Fits of %v and %v: %v, %v", q, p, fits, e)
				}
			}
			if got := expect.Result(datum.Apply(m, p)); got != refused {
				t.Errorf("Apply to %v: %v", p, got)
			}
		}
		for _, b := range notBoxes() {
			if expect.Result(datum.Carry(m, b)) != refused || expect.Result(datum.Back(m, b)) != refused {
				t.Errorf("Carry or Back takes %v", b)
			}
		}
	}
}

// P4.1, D2: of the places around the middle those fit that the oracle takes.
func TestFits(t *testing.T) {
	good, bad := 0, 0
	each(places(), func(m api.Datum, p api.Point) {
		mid := middle(m, p)
		b, _ := reach(m, p)
		for _, q := range around(b) {
			want := nearEnough(q, mid, m.Residue)
			if got := expect.OK[bool](t)(datum.Fits(m, p, q)); got != want {
				t.Errorf("Fits of %v, %v and %v: %v", m, p, q, got)
			}
			if want {
				good++
			} else {
				bad++
			}
		}
	})
	if good < 10000 || bad < 10000 {
		t.Errorf("%d places fit, %d do not", good, bad)
	}
}

// P4.1, D2: places far from the middle do not fit, up to the limits of all numbers.
func TestFitsFarAway(t *testing.T) {
	corner := []api.Point{at(-most, -most), at(-most, most), at(most, -most), at(most, most)}
	for _, m := range widest() {
		for _, p := range corner {
			for _, q := range corner {
				if got := expect.OK[bool](t)(datum.Fits(m, p, q)); got != nearEnough(q, middle(m, p), m.Residue) {
					t.Errorf("Fits of %v, %v and %v: %v", m, p, q, got)
				}
			}
		}
	}
}

// P4.1, D3: Apply returns the box of the oracle, or ErrRange.
func TestApply(t *testing.T) {
	good, far := 0, 0
	each(places(), func(m api.Datum, p api.Point) {
		want := expect.Fails[api.Box](api.ErrRange)
		if b, valid := reach(m, p); valid {
			want = expect.Result(b, api.OK)
			good++
		} else {
			far++
		}
		if got := expect.Result(datum.Apply(m, p)); got != want {
			t.Errorf("Apply of %v to %v: %v, and not %v", m, p, got, want)
		}
	})
	if good < 1000 || far < 1000 {
		t.Errorf("%d places can be mapped, %d cannot", good, far)
	}
}

// P4.1, D3 and D4: a box is in its range up to the limits on all four sides, and out of it one beyond them.
func TestRange(t *testing.T) {
	for i, x := range []struct {
		c, f, residue int
		b             api.Box
		want          expect.Pair[api.Box]
	}{
		{5, 5, 0, box(0, most-5, 0, most-5), expect.Result(box(5, most, 5, most), api.OK)},
		{5, 5, 0, box(0, most-4, 0, 0), expect.Fails[api.Box](api.ErrRange)},
		{5, 5, 0, box(0, 0, 0, most-4), expect.Fails[api.Box](api.ErrRange)},
		{5, 5, 1, box(0, most-5, 0, 0), expect.Fails[api.Box](api.ErrRange)},
		{5, 5, 1, box(0, 0, 0, most-5), expect.Fails[api.Box](api.ErrRange)},
		{5, 5, 1, box(-1, most-6, -1, most-6), expect.Result(box(3, most, 3, most), api.OK)},
		{-5, -5, 1, box(6-most, 0, 6-most, 0), expect.Result(box(-most, -4, -most, -4), api.OK)},
		{-5, -5, 1, box(5-most, 0, 0, 0), expect.Fails[api.Box](api.ErrRange)},
		{-5, -5, 1, box(0, 0, 5-most, 0), expect.Fails[api.Box](api.ErrRange)},
		{0, 0, 0, box(-most, most, -most, most), expect.Result(box(-most, most, -most, most), api.OK)},
		{0, 0, 1000, box(1000-most, most-1000, 1000-most, most-1000), expect.Result(box(-most, most, -most, most), api.OK)},
		{api.MaxMove, 0, 0, box(most, most, 0, 0), expect.Fails[api.Box](api.ErrRange)},
		{0, -api.MaxMove, 1000, box(0, 0, -most, -most), expect.Fails[api.Box](api.ErrRange)},
	} {
		m := api.Datum{A: million, E: million, C: x.c, F: x.f, Residue: x.residue}
		if got := expect.Result(datum.Carry(m, x.b)); got != x.want {
			t.Errorf("limit %d: %v", i, got)
		}
	}
}

// P4.1, D4: Carry returns the box of the oracle, or ErrRange.
func TestCarry(t *testing.T) {
	good, far := 0, 0
	each(boxes(), func(m api.Datum, b api.Box) {
		want := carried(m, b)
		if got := expect.Result(datum.Carry(m, b)); got != want {
			t.Errorf("Carry of %v and %v: %v, and not %v", m, b, got, want)
		}
		if want.Errno == api.OK {
			good++
		} else {
			far++
		}
	})
	if good < 1000 || far < 1000 {
		t.Errorf("%d boxes can be carried, %d cannot", good, far)
	}
}

// P4.1, D4: what Carry returns is the least box that has what Apply returns for all places.
func TestCarryIsLeast(t *testing.T) {
	for _, m := range datums() {
		if m.Residue > 20 {
			continue
		}
		for _, b := range []api.Box{box(-1, 2, 0, 3), box(100, 104, -7, -7), box(-3, -3, -2, 3), box(-5001, -4999, 70001, 70002)} {
			var x, y ends
			for i := b.X.Lo; i <= b.X.Hi; i++ {
				for k := b.Y.Lo; k <= b.Y.Hi; k++ {
					q := expect.OK[api.Box](t)(datum.Apply(m, at(i, k)))
					x.put(rat(q.X.Lo))
					x.put(rat(q.X.Hi))
					y.put(rat(q.Y.Lo))
					y.put(rat(q.Y.Hi))
				}
			}
			if got := expect.OK[api.Box](t)(datum.Carry(m, b)); got != (api.Box{X: x.outward(0), Y: y.outward(0)}) {
				t.Errorf("Carry of %v and %v: %v", m, b, got)
			}
		}
	}
}

// P4.1, D5: Back returns the box of the oracle, or ErrNone.
func TestBack(t *testing.T) {
	good, none := 0, 0
	each(boxes(), func(m api.Datum, b api.Box) {
		want := led(m, b)
		if got := expect.Result(datum.Back(m, b)); got != want {
			t.Errorf("Back of %v and %v: %v, and not %v", m, b, got, want)
		}
		if want.Errno == api.OK {
			good++
		} else {
			none++
		}
	})
	if good < 1000 || none < 300 {
		t.Errorf("%d boxes lead back, %d do not", good, none)
	}
}

// P4.1, D5: the integers of Back end at the limits of places, and there can be none.
func TestBackToTheLimits(t *testing.T) {
	twice := stretch(2*million, 2*million)
	none := expect.Fails[api.Box](api.ErrNone)
	for i, x := range []struct {
		m    api.Datum
		b    api.Box
		want expect.Pair[api.Box]
	}{
		{moved(), box(-most, 5-most, 0, 1), expect.Result(box(-most, -most, -5, -4), api.OK)},
		{moved(), box(-most, 4-most, 0, 1), none},
		{moved(), box(0, 1, -most, 5-most), expect.Result(box(-5, -4, -most, -most), api.OK)},
		{moved(), box(0, 1, -most, 4-most), none},
		{api.Datum{A: million, E: million, C: -5, F: -5}, box(most-5, most, most-5, most), expect.Result(box(most, most, most, most), api.OK)},
		{api.Datum{A: million, E: million, C: -5}, box(most-4, most, 0, 0), none},
		{api.Datum{A: million, E: million, F: -5}, box(0, 0, most-4, most), none},
		{api.Datum{A: million, E: million, F: -5, Residue: 1}, box(0, 0, most-4, most), expect.Result(box(-1, 1, most, most), api.OK)},
		{twice, box(3, 3, 4, 4), none},
		{twice, box(4, 4, -3, -3), none},
		{twice, box(-3, -2, 2, 3), expect.Result(box(-1, -1, 1, 1), api.OK)},
		{stretch(500000, 500000), box(-most, most, -most, most), expect.Result(box(-most, most, -most, most), api.OK)},
		{stretch(500000, 500000), box(7, 8, 500001, 500002), none},
	} {
		if got := expect.Result(datum.Back(x.m, x.b)); got != x.want {
			t.Errorf("limit %d: %v", i, got)
		}
	}
}

// P4.1, D6: Then returns the datum of the oracle, or ErrRange.
func TestThen(t *testing.T) {
	good, far := 0, 0
	for _, m := range datums() {
		for _, n := range sample.Every(datums(), 2) {
			want := joined(m, n)
			if got := expect.Result(datum.Then(m, n)); got != want {
				t.Errorf("Then of %v and %v: %v, and not %v", m, n, got, want)
			}
			if want.Errno == api.OK {
				good++
			} else {
				far++
			}
		}
	}
	if good < 1000 || far < 1000 {
		t.Errorf("%d datums can be put together, %d cannot", good, far)
	}
}

// P4.1, D7: Undo returns the datum of the oracle, or ErrRange.
func TestUndo(t *testing.T) {
	good, far := 0, 0
	for _, m := range append(append(datums(), plain()...), wild(2000)...) {
		want := undone(m)
		if got := expect.Result(datum.Undo(m)); got != want {
			t.Errorf("Undo of %v: %v, and not %v", m, got, want)
		}
		if want.Errno == api.OK {
			good++
		} else {
			far++
		}
	}
	if good < 200 || far < 200 {
		t.Errorf("%d datums lead back, %d do not", good, far)
	}
}

// P4.1, the words: numbers are rounded with their signs, so that halves become greater.
func TestHalves(t *testing.T) {
	for _, x := range []struct{ n, half, lessHalf int }{{-3, -1, 2}, {-2, -1, 1}, {-1, 0, 1}, {0, 0, 0}, {1, 1, 0}, {2, 1, -1}, {3, 2, -1}} {
		m := api.Datum{A: million, B: x.n, C: x.n, D: -x.n, E: million, F: -x.n}
		got := expect.OK[api.Datum](t)(datum.Then(m, stretch(500000, 500000)))
		if got != (api.Datum{A: 500000, B: x.half, C: x.half, D: x.lessHalf, E: 500000, F: x.lessHalf, Residue: 2}) {
			t.Errorf("Then with %d: %v", x.n, got)
		}
		got = expect.OK[api.Datum](t)(datum.Undo(api.Datum{A: 2 * million, B: -x.n, C: -x.n, E: million}))
		if got.A != 500000 || got.B != x.half || got.C != x.half {
			t.Errorf("Undo with %d: %v", x.n, got)
		}
		got = expect.OK[api.Datum](t)(datum.Undo(api.Datum{A: million, D: -x.n, E: 2 * million, F: -x.n}))
		if got.E != 500000 || got.D != x.half || got.F != x.half {
			t.Errorf("Undo with %d: %v", x.n, got)
		}
	}
}

// P4.1, D6 and D7: each field of a result may be beyond its limit.
func TestRangeOfDatums(t *testing.T) {
	const p, c, r = api.MaxPart, api.MaxMove, api.MaxResidue
	same := stretch(million, million)
	out := expect.Fails[api.Datum](api.ErrRange)
	with := func(c, f, residue int) api.Datum {
		return api.Datum{A: million, E: million, C: c, F: f, Residue: residue}
	}
	for i, x := range []struct {
		m, n api.Datum
		want expect.Pair[api.Datum]
	}{
		{with(c, -c, r-2), same, expect.Result(with(c, -c, r), api.OK)},
		{with(0, 0, r-1), same, out},
		{same, with(0, 0, r-1), out},
		{with(0, 0, 499), with(0, 0, 500), out},
		{with(0, 0, 499), with(0, 0, 499), expect.Result(with(0, 0, r), api.OK)},
		{with(c, 0, 0), with(1, 0, 0), out},
		{with(0, -c, 0), with(0, -1, 0), out},
		{stretch(p, million), stretch(million, p), expect.Result(api.Datum{A: p, E: p, Residue: 2}, api.OK)},
		{stretch(p, million), stretch(million+1, p), out},
		{stretch(million, p), stretch(million, million+1), out},
		{stretch(-p, -million), stretch(million+1, million), out},
		{stretch(500000, 500000), same, expect.Result(api.Datum{A: 500000, E: 500000, Residue: 2}, api.OK)},
		{stretch(500000, 500000), stretch(500000, 500000), out},
		{stretch(125000, p), stretch(p, 500000), expect.Result(api.Datum{A: 250000, E: million, Residue: 2}, api.OK)},
		{stretch(125000, p), stretch(million, million), expect.Result(api.Datum{A: 125000, E: p, Residue: 2}, api.OK)},
	} {
		if got := expect.Result(datum.Then(x.m, x.n)); got != x.want {
			t.Errorf("Then %d: %v", i, got)
		}
	}
	for i, x := range []struct {
		m    api.Datum
		want expect.Pair[api.Datum]
	}{
		{stretch(p, p), expect.Result(api.Datum{A: 500000, E: 500000, Residue: 2}, api.OK)},
		{stretch(p, 500000), expect.Result(api.Datum{A: 500000, E: p, Residue: 2}, api.OK)},
		{stretch(p, 499999), out},
		{stretch(499999, p), out},
		{api.Datum{A: 500000, E: million, C: c / 2}, expect.Result(api.Datum{A: p, E: million, C: -c, Residue: 2}, api.OK)},
		{api.Datum{A: 500000, E: million, C: c/2 + 1}, out},
		{api.Datum{A: million, E: 500000, F: -c / 2}, expect.Result(api.Datum{A: million, E: p, F: c, Residue: 2}, api.OK)},
		{api.Datum{A: million, E: 500000, F: -c/2 - 1}, out},
		{with(0, 0, r-3), expect.Result(with(0, 0, r), api.OK)},
		{with(0, 0, r-2), out},
		{with(0, 0, r), out},
	} {
		if got := expect.Result(datum.Undo(x.m)); got != x.want {
			t.Errorf("Undo %d: %v", i, got)
		}
	}
}
