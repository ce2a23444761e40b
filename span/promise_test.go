package span_test

import (
	"testing"

	"seamark/api"
	"seamark/internal/expect"
	"seamark/span"
)

// P2.2: sums and differences of numbers are in those of their spans; what was added can be taken away.
func TestSums(t *testing.T) {
	back := 0
	eachPair(func(r, s api.Span) {
		sum, e := span.Add(r, s)
		diff, e2 := span.Sub(r, s)
		for _, m := range some(r) {
			for _, n := range some(s) {
				if e == api.OK && !has(sum, m+n) {
					t.Errorf("%d + %d is not in Add of %v and %v", m, n, r, s)
				}
				if e2 == api.OK && !has(diff, m-n) {
					t.Errorf("%d - %d is not in Sub of %v and %v", m, n, r, s)
				}
			}
		}
		if e != api.OK {
			return
		}
		if first, e := span.Sub(sum, s); e == api.OK {
			back++
			if !expect.OK[bool](t)(span.Within(r, first)) {
				t.Errorf("%v, more by %v and less by it, is %v", r, s, first)
			}
		}
	})
	if back < 1000 {
		t.Errorf("only %d sums lead back", back)
	}
}

// P2.3: the scaled numbers are in the scaled span, and in none that is narrower.
func TestScaled(t *testing.T) {
	for _, s := range append(smallSpans(), wideSpans()...) {
		for _, f := range fractions() {
			num, den := f[0], f[1]
			out, e := span.Scale(s, num, den)
			if e != api.OK {
				continue
			}
			// the ends are up to MaxSpan, the divisors up to a million: the products have 64 bits
			for _, n := range some(s) {
				if n*num < out.Lo*den || n*num > out.Hi*den {
					t.Errorf("%d is out of Scale of %v by %v: %v", n, s, f, out)
				}
			}
			if min(s.Lo*num, s.Hi*num) >= (out.Lo+1)*den || max(s.Lo*num, s.Hi*num) <= (out.Hi-1)*den {
				t.Errorf("Scale of %v by %v is wider than it has to be: %v", s, f, out)
			}
		}
	}
}

// P2.4: a number is in Meet exactly if it is in both; the order does not matter.
func TestInCommon(t *testing.T) {
	eachPair(func(r, s api.Span) {
		both, e := span.Meet(r, s)
		if expect.Result(both, e) != expect.Result(span.Meet(s, r)) {
			t.Errorf("Meet of %v and %v depends on the order", r, s)
		}
		if e != api.OK && e != api.ErrNone {
			t.Errorf("Meet of %v and %v: %v", r, s, e)
		}
		for _, n := range append(some(r), some(s)...) {
			if in := e == api.OK && has(both, n); in != (has(r, n) && has(s, n)) {
				t.Errorf("%d is in Meet of %v and %v: %v", n, r, s, in)
			}
		}
		if e == api.OK && (!has(r, both.Lo) || !has(s, both.Lo) || !has(r, both.Hi) || !has(s, both.Hi) || both.Lo > both.Hi) {
			t.Errorf("Meet of %v and %v: %v", r, s, both)
		}
	})
}

// P2.5: Join has all of both, and is the least such span.
func TestJoined(t *testing.T) {
	within := func(s, u api.Span) bool { return expect.OK[bool](t)(span.Within(s, u)) }
	eachPair(func(r, s api.Span) {
		joined := expect.OK[api.Span](t)(span.Join(r, s))
		if !within(r, joined) || !within(s, joined) {
			t.Errorf("Join of %v and %v has not all of both: %v", r, s, joined)
		}
		for _, u := range append(smallSpans(), wideSpans()...) {
			if within(r, u) && within(s, u) && !within(joined, u) {
				t.Errorf("Join of %v and %v is more than %v: %v", r, s, u, joined)
			}
		}
	})
}

// P2.6: spans are in order by what they have all of.
func TestOrder(t *testing.T) {
	within := func(s, u api.Span) bool { return expect.OK[bool](t)(span.Within(s, u)) }
	all := append(smallSpans(), wideSpans()...)
	eachPair(func(r, s api.Span) {
		if within(r, s) && within(s, r) != (r == s) {
			t.Errorf("%v and %v have all of each other", r, s)
		}
		if !within(r, s) {
			if r == s {
				t.Errorf("%v has not all of itself", r)
			}
			return
		}
		for _, u := range all {
			if within(s, u) && !within(r, u) {
				t.Errorf("%v has all of %v, which has all of %v", u, s, r)
			}
		}
		for _, f := range fractions() {
			less, e := span.Scale(r, f[0], f[1])
			more, e2 := span.Scale(s, f[0], f[1])
			if e == api.OK && e2 == api.OK && !within(less, more) {
				t.Errorf("Scale of %v by %v has not all of that of %v", s, f, r)
			}
		}
	})
}

// P2.7: a place is in Meet of boxes exactly if it is in both, in Join if it is in one; and a box has the places of those it has all of.
func TestBoxes(t *testing.T) {
	in := func(p api.Point, b api.Box) bool { return expect.OK[bool](t)(span.InBox(p, b)) }
	for _, a := range smallBoxes() {
		for _, b := range smallBoxes() {
			both, e := span.MeetBox(a, b)
			joined := expect.OK[api.Box](t)(span.JoinBox(a, b))
			all := expect.OK[bool](t)(span.WithinBox(a, b))
			missing := false
			for _, p := range places() {
				if in(p, a) != hasPlace(a, p) {
					t.Errorf("%v is in %v: %v", p, a, in(p, a))
				}
				if (e == api.OK && in(p, both)) != (in(p, a) && in(p, b)) {
					t.Errorf("%v is in MeetBox of %v and %v, or in both, and not both", p, a, b)
				}
				if (in(p, a) || in(p, b)) && !in(p, joined) {
					t.Errorf("%v is not in JoinBox of %v and %v", p, a, b)
				}
				missing = missing || in(p, a) && !in(p, b)
			}
			if all == missing {
				t.Errorf("WithinBox of %v and %v: %v", a, b, all)
			}
		}
	}
}

// P2.8: a place is in a grown box exactly if it is near some place of the box; growths add up.
func TestGrown(t *testing.T) {
	grow := func(b api.Box, n int) api.Box { return expect.OK[api.Box](t)(span.GrowBox(b, n)) }
	for _, b := range smallBoxes() {
		for n := range 3 {
			grown := grow(b, n)
			for x := -5; x <= 6; x++ {
				for y := -5; y <= 6; y++ {
					p := at(x, y)
					if expect.OK[bool](t)(span.InBox(p, grown)) != nearSome(p, b, n) {
						t.Errorf("%v is in %v grown by %d, or near it, and not both", p, b, n)
					}
				}
			}
		}
	}
	for _, b := range append(smallBoxes(), wideBoxes()...) {
		for _, m := range []int{0, 1, 2, 499999, coord - 3} {
			for _, n := range []int{0, 1, 5, 500000, coord} {
				first, e := span.GrowBox(b, m)
				both, e2 := span.GrowBox(b, m+n)
				if e != api.OK || e2 != api.OK {
					continue
				}
				if grow(first, n) != both {
					t.Errorf("%v grown by %d and by %d is not grown by the sum", b, m, n)
				}
			}
		}
	}
}

// nearSome reports whether p is at most n away, in X and in Y, from some place of b.
func nearSome(p api.Point, b api.Box, n int) bool {
	for _, q := range places() {
		if hasPlace(b, q) && max(q.X-p.X, p.X-q.X) <= n && max(q.Y-p.Y, p.Y-q.Y) <= n {
			return true
		}
	}
	return false
}
