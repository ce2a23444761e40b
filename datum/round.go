package datum

import "seamark/api"

// rounding has the ways to make an integer of num / den, for a den greater than 0.
type rounding struct {
	down, up, near func(num, den int) int
}

// ways returns the ways to round.
func ways() rounding {
	return rounding{down: down, up: up, near: near}
}

// outward returns the least span of integers that has all from s.Lo / den to s.Hi / den.
func (r rounding) outward(s api.Span, den int) api.Span {
	return api.Span{Lo: r.down(s.Lo, den), Hi: r.up(s.Hi, den)}
}

// inward returns the integers from s.Lo / den to s.Hi / den: if there are none, a span with its ends in the wrong order.
func (r rounding) inward(s api.Span, den int) api.Span {
	return api.Span{Lo: r.up(s.Lo, den), Hi: r.down(s.Hi, den)}
}

// down returns the greatest integer that is at most num / den.
func down(num, den int) int {
	quotient := num / den
	if num%den < 0 {
		quotient--
	}
	return quotient
}

// up returns the least integer that is at least num / den.
func up(num, den int) int {
	return -down(-num, den)
}

// near returns the greatest integer that is at most num / den and a half.
func near(num, den int) int {
	return down(2*num+den, 2*den)
}
