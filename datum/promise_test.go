package datum_test

import (
	"testing"

	"seamark/api"
	"seamark/datum"
	"seamark/internal/expect"
	"seamark/internal/sample"
	"seamark/span"
)

// inPlaces returns the places of a list that are in b.
func inPlaces(b api.Box, list []api.Point) []api.Point {
	var out []api.Point
	for _, p := range list {
		if hasPlace(b, p) {
			out = append(out, p)
		}
	}
	return out
}

// P4.2: what may be the place of p is in Apply and in Carry, and p is in Back.
func TestNothingIsLost(t *testing.T) {
	applied, led := 0, 0
	each(places(), func(m api.Datum, p api.Point) {
		b, e := datum.Apply(m, p)
		for _, q := range fitting(t, m, p) {
			if e == api.OK && !hasPlace(b, q) {
				t.Errorf("%v is not in Apply of %v to %v", q, m, p)
			}
			if back := expect.OK[api.Box](t)(datum.Back(m, only(q))); !hasPlace(back, p) {
				t.Errorf("%v is not in Back of %v and %v", p, m, q)
			}
			led++
		}
		if e == api.OK {
			applied++
		}
	})
	if applied < 1000 || led < 10000 {
		t.Errorf("only %d places were mapped, and %d led back", applied, led)
	}
}

// P4.2: the same holds for all places of a box.
func TestNothingIsLostOfBoxes(t *testing.T) {
	carried, led := 0, 0
	each(sample.Every(boxes(), 5), func(m api.Datum, b api.Box) {
		c, e := datum.Carry(m, b)
		for _, p := range sample.Every(inPlaces(b, around(b)), 5) {
			for _, q := range fitting(t, m, p) {
				carried++
				if e == api.OK && !hasPlace(c, q) {
					t.Errorf("%v is not in Carry of %v and %v, which has %v", q, m, b, p)
				}
			}
		}
		if e != api.OK {
			return
		}
		back, e := datum.Back(m, b)
		for _, p := range sample.Every(places(), 7) {
			for _, q := range inPlaces(b, fitting(t, m, p)) {
				led++
				if e != api.OK || !hasPlace(back, p) {
					t.Errorf("%v is not in Back of %v and %v, which has %v", p, m, b, q)
				}
			}
		}
	})
	if carried < 10000 || led < 1000 {
		t.Errorf("only %d places were carried, and %d led back", carried, led)
	}
}

// P4.3: Apply is Carry of the box of the place, with the same error.
func TestApplyIsCarry(t *testing.T) {
	each(places(), func(m api.Datum, p api.Point) {
		applied, carried := expect.Result(datum.Apply(m, p)), expect.Result(datum.Carry(m, only(p)))
		if applied != carried {
			t.Errorf("Apply of %v to %v: %v, and Carry: %v", m, p, applied, carried)
		}
	})
}

// P4.3: the boxes of a box that lies within another one lie within those of the other one.
func TestBoxesWithin(t *testing.T) {
	carried, led := 0, 0
	for _, m := range sample.Every(datums(), 2) {
		for _, inner := range boxes() {
			for _, b := range sample.Every(boxes(), 4) {
				outer := expect.OK[api.Box](t)(span.JoinBox(inner, b))
				small, e := datum.Carry(m, inner)
				great, e2 := datum.Carry(m, outer)
				if e == api.OK && e2 == api.OK {
					carried++
					if !expect.OK[bool](t)(span.WithinBox(small, great)) {
						t.Errorf("Carry of %v and %v is not within that of %v", m, inner, outer)
					}
				}
				small, e = datum.Back(m, inner)
				great, e2 = datum.Back(m, outer)
				if e == api.OK {
					led++
					if e2 != api.OK || !expect.OK[bool](t)(span.WithinBox(small, great)) {
						t.Errorf("Back of %v and %v is not within that of %v", m, inner, outer)
					}
				}
			}
		}
	}
	if carried < 10000 || led < 10000 {
		t.Errorf("only %d boxes were carried, and %d led back", carried, led)
	}
}

// P4.4: what fits by m and then by n fits by Then of both.
func TestOneAfterTheOther(t *testing.T) {
	count := 0
	for i, m := range datums() {
		for k, n := range datums() {
			both, e := datum.Then(m, n)
			if e != api.OK || (i+k)%17 > 0 {
				continue
			}
			for _, p := range sample.Every(places(), 9) {
				for _, q := range sample.Every(fitting(t, m, p), 3) {
					for _, r := range sample.Every(fitting(t, n, q), 3) {
						count++
						if !expect.OK[bool](t)(datum.Fits(both, p, r)) {
							t.Errorf("%v, %v, %v by %v and %v do not fit by %v", p, q, r, m, n, both)
						}
					}
				}
			}
		}
	}
	if count < 10000 {
		t.Errorf("only %d places were mapped twice", count)
	}
}

// P4.5: of what fits by m, the place fits by Undo.
func TestThereAndBackFits(t *testing.T) {
	count := 0
	for _, m := range append(datums(), wild(400)...) {
		back, e := datum.Undo(m)
		if e != api.OK {
			continue
		}
		for _, p := range places() {
			for _, q := range fitting(t, m, p) {
				count++
				if !expect.OK[bool](t)(datum.Fits(back, q, p)) {
					t.Errorf("%v and %v by %v do not fit by %v", p, q, m, back)
				}
			}
		}
	}
	if count < 10000 {
		t.Errorf("only %d places led back", count)
	}
}

// P4.6: with a greater residue nothing fits less; places of one place are at most twice the residue apart.
func TestResidues(t *testing.T) {
	more, farthest := 0, 0
	each(places(), func(m api.Datum, p api.Point) {
		b, _ := reach(m, p)
		for _, n := range []int{m.Residue + 1, m.Residue + 3, api.MaxResidue} {
			wider := m
			wider.Residue = min(n, api.MaxResidue)
			for _, q := range around(b) {
				before, after := expect.OK[bool](t)(datum.Fits(m, p, q)), expect.OK[bool](t)(datum.Fits(wider, p, q))
				if before && !after {
					t.Errorf("%v and %v fit by %v, but not with %d", p, q, m, wider.Residue)
				}
				if after && !before {
					more++
				}
			}
		}
		var x, y ends
		for _, q := range fitting(t, m, p) {
			x.put(rat(q.X))
			y.put(rat(q.Y))
		}
		if x.lo == nil {
			return
		}
		for _, s := range []api.Span{x.outward(0), y.outward(0)} {
			if s.Hi-s.Lo > 2*m.Residue {
				t.Errorf("places of %v by %v are %d apart", p, m, s.Hi-s.Lo)
			}
			if s.Hi-s.Lo == 2*m.Residue {
				farthest++
			}
		}
	})
	if more < 1000 || farthest < 100 {
		t.Errorf("only %d places fit with more, and %d are as far as possible", more, farthest)
	}
}

// shifted returns the datum with greater shifts.
func shifted(m api.Datum, x, y int) api.Datum {
	m.C, m.F = m.C+x, m.F+y
	return m
}

// boxMoved returns the box x farther to the east and y farther to the north.
func boxMoved(b api.Box, x, y int) api.Box { return box(b.X.Lo+x, b.X.Hi+x, b.Y.Lo+y, b.Y.Hi+y) }

// moves are those by which the shifts of datums become greater.
func moves() []api.Point {
	return []api.Point{at(1, 0), at(0, -1), at(-7, 12), at(345, 6789), at(-50000, 50000)}
}

// P4.7: with greater shifts, places fit, and are mapped, as much farther.
func TestMoving(t *testing.T) {
	fitted, applied := 0, 0
	each(places(), func(m api.Datum, p api.Point) {
		near := sample.Every(fitting(t, m, p), 4)
		for _, by := range moves() {
			far := shifted(m, by.X, by.Y)
			if !datum.Valid(far) {
				continue
			}
			for _, q := range near {
				if q = at(q.X+by.X, q.Y+by.Y); hasPlace(box(-most, most, -most, most), q) {
					fitted++
					if !expect.OK[bool](t)(datum.Fits(far, p, q)) {
						t.Errorf("%v and %v do not fit by %v", p, q, far)
					}
				}
			}
			b, e := datum.Apply(m, p)
			c, e2 := datum.Apply(far, p)
			if e == api.OK && e2 == api.OK {
				applied++
				if c != boxMoved(b, by.X, by.Y) {
					t.Errorf("Apply of %v to %v: %v", far, p, c)
				}
			}
		}
	})
	if fitted < 1000 || applied < 1000 {
		t.Errorf("only %d places fit, and %d were mapped", fitted, applied)
	}
}

// P4.7: with greater shifts, boxes are carried as much farther, and those as much farther lead back to the same.
func TestMovingBoxes(t *testing.T) {
	carried, led := 0, 0
	each(boxes(), func(m api.Datum, b api.Box) {
		for _, by := range moves() {
			far := shifted(m, by.X, by.Y)
			if !datum.Valid(far) {
				continue
			}
			c, e := datum.Carry(m, b)
			d, e2 := datum.Carry(far, b)
			if e == api.OK && e2 == api.OK {
				carried++
				if d != boxMoved(c, by.X, by.Y) {
					t.Errorf("Carry of %v and %v: %v", far, b, d)
				}
			}
			if moved := boxMoved(b, by.X, by.Y); isBox(moved) {
				led++
				if before, after := expect.Result(datum.Back(m, b)), expect.Result(datum.Back(far, moved)); before != after {
					t.Errorf("Back of %v and %v: %v, and not %v", far, moved, after, before)
				}
			}
		}
	})
	if carried < 1000 || led < 1000 {
		t.Errorf("only %d boxes were carried, and %d led back", carried, led)
	}
}

// P4.8: a place is in Back of Apply, and Carry of that has all of Apply.
func TestThereAndBack(t *testing.T) {
	led, carried := 0, 0
	each(places(), func(m api.Datum, p api.Point) {
		there, e := datum.Apply(m, p)
		if e != api.OK {
			return
		}
		led++
		back := expect.OK[api.Box](t)(datum.Back(m, there))
		if !hasPlace(back, p) {
			t.Errorf("Back of %v and %v: %v, without %v", m, there, back, p)
		}
		again, e := datum.Carry(m, back)
		if e != api.OK {
			return
		}
		carried++
		if !expect.OK[bool](t)(span.WithinBox(there, again)) {
			t.Errorf("Carry of %v and %v has not all of %v", m, back, there)
		}
	})
	if led < 1000 || carried < 1000 {
		t.Errorf("only %d places led back, and %d boxes were carried again", led, carried)
	}
}
