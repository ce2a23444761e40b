package span_test

import (
	"math"
	"math/big"
	"testing"

	"seamark/api"
	"seamark/internal/expect"
	"seamark/span"
)

// twoSpans are the functions of two spans that return a span.
var twoSpans = []func(s, t api.Span) (api.Span, api.Errno){span.Add, span.Sub, span.Meet, span.Join}

// P2.1: the examples of the chapter.
func TestExamples(t *testing.T) {
	for i, x := range []struct{ got, want expect.Pair[api.Span] }{
		{expect.Result(span.Sub(of(1, 3), of(2, 5))), expect.Result(of(-4, 1), api.OK)},
		{expect.Result(span.Scale(of(-3, 5), 1, 2)), expect.Result(of(-2, 3), api.OK)},
		{expect.Result(span.Scale(of(-3, 5), -1, 2)), expect.Result(of(-3, 2), api.OK)},
		{expect.Result(span.Meet(of(1, 3), of(3, 9))), expect.Result(of(3, 3), api.OK)},
		{expect.Result(span.Meet(of(1, 3), of(4, 9))), expect.Fails[api.Span](api.ErrNone)},
		{expect.Result(span.Join(of(1, 3), of(7, 9))), expect.Result(of(1, 9), api.OK)},
	} {
		if x.got != x.want {
			t.Errorf("example %d: %v", i, x.got)
		}
	}
	if g, e := span.GrowBox(box(0, 2, 5, 5), 3); g != box(-3, 5, 2, 8) || e != api.OK {
		t.Errorf("GrowBox: %v, %v", g, e)
	}
}

// P2.1, B1: spans are valid up to the limits, with ends in order.
func TestValid(t *testing.T) {
	for _, s := range append(smallSpans(), wideSpans()...) {
		if !span.Valid(s) {
			t.Errorf("%v is not valid", s)
		}
	}
	for _, s := range notSpans(most) {
		if span.Valid(s) {
			t.Errorf("%v is valid", s)
		}
	}
}

// P2.1: what is not valid is refused in every position, ahead of ErrRange and ErrNone.
func TestErrArg(t *testing.T) {
	refused := expect.Fails[api.Span](api.ErrArg)
	for _, bad := range notSpans(most) {
		for _, good := range []api.Span{of(0, 0), of(-most, most), of(most, most), bad} {
			for i, do := range twoSpans {
				if expect.Result(do(bad, good)) != refused || expect.Result(do(good, bad)) != refused {
					t.Errorf("function %d takes %v with %v", i, bad, good)
				}
			}
			if in, e := span.Within(bad, good); in || e != api.ErrArg {
				t.Errorf("Within of %v and %v: %v, %v", bad, good, in, e)
			}
			if in, e := span.Within(good, bad); in || e != api.ErrArg {
				t.Errorf("Within of %v and %v: %v, %v", good, bad, in, e)
			}
		}
		if got := expect.Result(span.Scale(bad, 1, 1)); got != refused {
			t.Errorf("Scale of %v: %v", bad, got)
		}
	}
	for _, s := range []api.Span{of(0, 0), of(-3, 5), of(-most, most)} {
		for _, f := range [][2]int{
			{1, 0}, {1, -1}, {1, factor + 1}, {factor + 1, 1}, {-factor - 1, 1}, {factor + 1, factor + 1}, {0, 0}, {0, -factor},
			{math.MaxInt, 1}, {math.MinInt, 1}, {1, math.MaxInt}, {1, math.MinInt},
		} {
			if got := expect.Result(span.Scale(s, f[0], f[1])); got != refused {
				t.Errorf("Scale of %v by %v: %v", s, f, got)
			}
		}
	}
}

// checked returns a span, or ErrRange for one that is beyond the limits.
func checked(s api.Span) expect.Pair[api.Span] {
	if s.Lo < -most || s.Hi > most {
		return expect.Fails[api.Span](api.ErrRange)
	}
	return expect.Result(s, api.OK)
}

// P2.1, B2: the ends are the least and the greatest sum, and difference, of two ends.
func TestSumsAndDifferences(t *testing.T) {
	eachPair(func(r, s api.Span) {
		sum := of(math.MaxInt, math.MinInt)
		diff := sum
		for _, m := range []int{r.Lo, r.Hi} {
			for _, n := range []int{s.Lo, s.Hi} {
				sum = of(min(sum.Lo, m+n), max(sum.Hi, m+n))
				diff = of(min(diff.Lo, m-n), max(diff.Hi, m-n))
			}
		}
		if got := expect.Result(span.Add(r, s)); got != checked(sum) {
			t.Errorf("Add of %v and %v: %v", r, s, got)
		}
		if got := expect.Result(span.Sub(r, s)); got != checked(diff) {
			t.Errorf("Sub of %v and %v: %v", r, s, got)
		}
	})
}

// quotient returns n * num / den, rounded down. (Div of package big rounds down for a den that is positive.)
func quotient(n, num, den int) int {
	product := new(big.Int).Mul(big.NewInt(int64(n)), big.NewInt(int64(num)))
	return int(product.Div(product, big.NewInt(int64(den))).Int64())
}

// scaled returns what Scale has to return.
func scaled(s api.Span, num, den int) expect.Pair[api.Span] {
	low := min(quotient(s.Lo, num, den), quotient(s.Hi, num, den))
	high := max(-quotient(s.Lo, -num, den), -quotient(s.Hi, -num, den))
	return checked(of(low, high))
}

// fractions have the factors and divisors of small numbers, and those at the limits and near them.
func fractions() [][2]int {
	var out [][2]int
	for _, num := range []int{-factor, 1 - factor, -7, -3, -2, -1, 0, 1, 2, 5, 999, factor - 1, factor} {
		for _, den := range []int{1, 2, 3, 4, 7, 1000, 500001, factor - 1, factor} {
			out = append(out, [2]int{num, den})
		}
	}
	return out
}

// P2.1, B3: the ends of a scaled span are those of the oracle.
func TestScale(t *testing.T) {
	good, far := 0, 0
	for _, s := range append(smallSpans(), wideSpans()...) {
		for _, f := range fractions() {
			want := scaled(s, f[0], f[1])
			if got := expect.Result(span.Scale(s, f[0], f[1])); got != want {
				t.Errorf("Scale of %v by %v: %v, and not %v", s, f, got, want)
			}
			if want.Errno == api.OK {
				good++
			} else {
				far++
			}
		}
	}
	if good < 1000 || far < 100 {
		t.Errorf("%d spans are possible, %d are not", good, far)
	}
}

// P2.1, B3: a scaled span reaches the limits, and is out of its range one beyond them, at each end.
func TestScaleAtTheLimits(t *testing.T) {
	for i, x := range []struct {
		s        api.Span
		num, den int
		want     expect.Pair[api.Span]
	}{
		{of(-most, most), factor, factor, expect.Result(of(-most, most), api.OK)},
		{of(-most, most), -factor, factor, expect.Result(of(-most, most), api.OK)},
		{of(-most, most), factor, factor - 1, expect.Fails[api.Span](api.ErrRange)},
		{of(0, 1000001), factor, 1, expect.Fails[api.Span](api.ErrRange)},
		{of(0, 1000000), factor, 1, expect.Result(of(0, most), api.OK)},
		{of(-1000001, 0), factor, 1, expect.Fails[api.Span](api.ErrRange)},
		{of(-1000000, 0), -factor, 1, expect.Result(of(0, most), api.OK)},
		// most + 1/2 is rounded up beyond the limit, and -most - 1/2 down
		{of(0, 666666666667), 3, 2, expect.Fails[api.Span](api.ErrRange)},
		{of(-666666666667, 0), 3, 2, expect.Fails[api.Span](api.ErrRange)},
		{of(-666666666666, 666666666666), 3, 2, expect.Result(of(1-most, most-1), api.OK)},
	} {
		if got := expect.Result(span.Scale(x.s, x.num, x.den)); got != x.want {
			t.Errorf("limit %d: %v", i, got)
		}
	}
}

// P2.1, B4 to B6, and P2.4: what two spans have in common, and which of them has all of the other one, by their numbers.
func TestSmallSpans(t *testing.T) {
	for _, r := range smallSpans() {
		for _, s := range smallSpans() {
			var both []int
			all := true
			for _, n := range numbers {
				if has(r, n) && has(s, n) {
					both = append(both, n)
				}
				all = all && (has(s, n) || !has(r, n))
			}
			want := expect.Fails[api.Span](api.ErrNone)
			if len(both) > 0 {
				want = expect.Result(of(both[0], both[len(both)-1]), api.OK)
			}
			if got := expect.Result(span.Meet(r, s)); got != want {
				t.Errorf("Meet of %v and %v: %v", r, s, got)
			}
			if got := expect.OK[bool](t)(span.Within(r, s)); got != all {
				t.Errorf("Within of %v and %v: %v", r, s, got)
			}
		}
	}
}
