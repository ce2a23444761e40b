package span

import (
	"cmp"

	"seamark/api"
)

// maxFactor is the greatest factor and the greatest divisor of a scaled span.
const maxFactor = 1000000

// endsWithin reports whether the ends of s are in order, and from -most to most.
func endsWithin(s api.Span, most int) bool {
	return -most <= s.Lo && s.Lo <= s.Hi && s.Hi <= most
}

// inRange returns s, or ErrRange if it is not valid.
func inRange(s api.Span) (api.Span, api.Errno) {
	if !Valid(s) {
		return api.Span{}, api.ErrRange
	}
	return s, api.OK
}

// single returns the span that has n alone.
func single(n int) api.Span {
	return api.Span{Lo: n, Hi: n}
}

// meet returns what both have in common: if that is nothing, a span with its ends in the wrong order.
func meet(s, t api.Span) api.Span {
	return api.Span{Lo: max(s.Lo, t.Lo), Hi: min(s.Hi, t.Hi)}
}

// join returns the least span that has both.
func join(s, t api.Span) api.Span {
	return api.Span{Lo: min(s.Lo, t.Lo), Hi: max(s.Hi, t.Hi)}
}

// inOrder returns the lesser one of two values, and the greater one.
func inOrder[T cmp.Ordered](a, b T) (lesser, greater T) {
	return min(a, b), max(a, b)
}

// roundDown returns n / den, rounded down, for a positive den.
func roundDown(n, den int) int {
	quotient := n / den
	if n%den < 0 {
		quotient--
	}
	return quotient
}

// roundUp returns n / den, rounded up, for a positive den.
func roundUp(n, den int) int {
	return -roundDown(-n, den)
}
