package span_test

import (
	"math"

	"seamark/api"
)

const (
	most   = api.MaxSpan
	coord  = api.MaxCoord
	factor = 1000000 // the greatest factor, and the greatest divisor
)

func of(lo, hi int) api.Span { return api.Span{Lo: lo, Hi: hi} }

func box(a, b, c, d int) api.Box { return api.Box{X: of(a, b), Y: of(c, d)} }

func at(x, y int) api.Point { return api.Point{X: x, Y: y} }

// spansOf returns all spans whose ends are among these numbers, which ascend.
func spansOf(ends ...int) []api.Span {
	var out []api.Span
	for i, lo := range ends {
		for _, hi := range ends[i:] {
			out = append(out, of(lo, hi))
		}
	}
	return out
}

// boxesOf returns all boxes whose spans are among these.
func boxesOf(spans []api.Span) []api.Box {
	var out []api.Box
	for _, x := range spans {
		for _, y := range spans {
			out = append(out, api.Box{X: x, Y: y})
		}
	}
	return out
}

// numbers are those of which all small spans consist.
var numbers = []int{-3, -2, -1, 0, 1, 2, 3}

func smallSpans() []api.Span { return spansOf(numbers...) }

// wideSpans have ends at the limits, half way to them, next to these, and elsewhere.
func wideSpans() []api.Span {
	return spansOf(-most, 1-most, -most/2-1, -most/2, -7654321, 0, 1, 123456789, most/2, most/2+1, most-1, most)
}

// smallBoxes have places whose coordinates are from -1 to 2.
func smallBoxes() []api.Box { return boxesOf(spansOf(-1, 0, 1, 2)) }

func wideBoxes() []api.Box { return boxesOf(spansOf(-coord, 1-coord, 0, 499999, coord)) }

// places are those of small boxes, and those around them.
func places() []api.Point {
	var out []api.Point
	for x := -2; x <= 3; x++ {
		for y := -2; y <= 3; y++ {
			out = append(out, at(x, y))
		}
	}
	return out
}

// eachPair calls f for all pairs of small spans, and for those of wide ones.
func eachPair(f func(s, t api.Span)) {
	for _, list := range [][]api.Span{smallSpans(), wideSpans()} {
		for _, s := range list {
			for _, t := range list {
				f(s, t)
			}
		}
	}
}

// eachPairOfBoxes calls f for all pairs of small boxes, and for those of wide ones.
func eachPairOfBoxes(f func(a, b api.Box)) {
	for _, list := range [][]api.Box{smallBoxes(), wideBoxes()} {
		for _, a := range list {
			for _, b := range list {
				f(a, b)
			}
		}
	}
}

// has reports whether n is in s.
func has(s api.Span, n int) bool { return n >= s.Lo && n <= s.Hi }

func hasPlace(b api.Box, p api.Point) bool { return has(b.X, p.X) && has(b.Y, p.Y) }

// some returns numbers of s: all of a small span, and those at and near the ends and the middle of a wide one.
func some(s api.Span) []int {
	var out []int
	for _, n := range []int{-3, -2, -1, 0, 1, 2, 3, s.Lo, s.Lo + 1, s.Lo + (s.Hi-s.Lo)/2, s.Hi - 1, s.Hi} {
		if has(s, n) {
			out = append(out, n)
		}
	}
	return out
}

// notSpans are no valid spans, with most as the greatest end.
func notSpans(most int) []api.Span {
	return []api.Span{
		of(1, 0), of(most, -most), of(most, most-1), of(0, most+1), of(-most-1, 0), of(-most-1, most+1), of(most+1, most+1),
		of(-most-1, -most-1), of(math.MinInt, math.MaxInt), of(math.MaxInt, math.MinInt), of(0, math.MaxInt), of(math.MinInt, 0),
	}
}

// notBoxes are no valid boxes.
func notBoxes() []api.Box {
	var out []api.Box
	for _, s := range notSpans(coord) {
		out = append(out, api.Box{X: s, Y: of(0, 0)}, api.Box{X: of(0, 0), Y: s}, api.Box{X: s, Y: s})
	}
	return out
}
