package datum_test

import (
	"math"
	"math/rand/v2"
	"testing"

	"seamark/api"
	"seamark/datum"
	"seamark/internal/expect"
	"seamark/internal/sample"
)

const (
	most    = api.MaxCoord
	million = 1000000
	minDet  = 250000000000
)

func at(x, y int) api.Point { return api.Point{X: x, Y: y} }

func box(a, b, c, d int) api.Box {
	return api.Box{X: api.Span{Lo: a, Hi: b}, Y: api.Span{Lo: c, Hi: d}}
}

// only returns the box that has p alone.
func only(p api.Point) api.Box { return box(p.X, p.X, p.Y, p.Y) }

func hasPlace(b api.Box, p api.Point) bool {
	return b.X.Lo <= p.X && p.X <= b.X.Hi && b.Y.Lo <= p.Y && p.Y <= b.Y.Hi
}

// quarter and moved are the datums m and n of the chapter.
func quarter() api.Datum { return api.Datum{B: -million, D: million, C: 10, Residue: 1} }
func moved() api.Datum   { return api.Datum{A: million, E: million, C: 5, F: 5} }

// stretch returns the datum that multiplies by these millionths.
func stretch(a, e int) api.Datum { return api.Datum{A: a, E: e} }

// chance returns numbers that are the same in each run.
func chance() *rand.Rand { return rand.New(rand.NewPCG(4, 8)) }

// plain returns datums with simple factors, which make halves.
func plain() []api.Datum {
	var out []api.Datum
	factors := []int{-1500000, -million, 0, 500000, million}
	for i, a := range factors {
		for j, b := range factors {
			for k, d := range factors {
				for l, e := range factors {
					m := api.Datum{A: a, B: b, C: i - 2*j, D: d, E: e, F: 3*k - l, Residue: (i + j + k + l) % 4}
					if isDatum(m) {
						out = append(out, m)
					}
				}
			}
		}
	}
	return out
}

// odd returns datums that are near to the one that changes nothing, as those of charts are.
func odd(count int) []api.Datum {
	r := chance()
	var out []api.Datum
	for range count {
		out = append(out, api.Datum{
			A: million + sample.UpTo(r, 400), B: sample.UpTo(r, 400), C: sample.UpTo(r, 300),
			D: sample.UpTo(r, 400), E: million + sample.UpTo(r, 400), F: sample.UpTo(r, 300), Residue: r.IntN(12),
		})
	}
	return out
}

// wild returns datums with any factors and shifts, and those at the limits.
func wild(count int) []api.Datum {
	r := chance()
	var out []api.Datum
	for len(out) < count {
		m := api.Datum{
			A: sample.UpTo(r, api.MaxPart), B: sample.UpTo(r, api.MaxPart), C: sample.UpTo(r, api.MaxMove),
			D: sample.UpTo(r, api.MaxPart), E: sample.UpTo(r, api.MaxPart), F: sample.UpTo(r, api.MaxMove), Residue: r.IntN(api.MaxResidue + 1),
		}
		if len(out)%2 == 0 {
			m.C, m.F, m.Residue = m.C/500, m.F/500, m.Residue/200
		}
		if isDatum(m) {
			out = append(out, m)
		}
	}
	return out
}

// widest returns datums with the greatest and the least determinants, and with the greatest shifts and residues.
func widest() []api.Datum {
	const p, c, r = api.MaxPart, api.MaxMove, api.MaxResidue
	return []api.Datum{
		{A: p, B: -p, C: c, D: p, E: p, F: -c, Residue: r}, {A: -p, B: p, C: -c, D: -p, E: -p, F: c, Residue: r},
		{A: p, B: p, C: c, D: 1875000, E: p, F: c, Residue: r}, {A: -p, B: -p, C: -c, D: -1875000, E: -p, F: -c, Residue: r},
		{A: p, B: p, C: -c, D: 1875000, E: p, F: -c}, {A: 125000, B: 0, D: 0, E: p, C: c, F: c}, {A: 500000, E: 500000, Residue: r},
	}
}

// datums returns some of each sort.
func datums() []api.Datum {
	out := append([]api.Datum{quarter(), moved()}, widest()...)
	for i, m := range plain() {
		if i%4 == 0 {
			out = append(out, m)
		}
	}
	return append(append(out, odd(24)...), wild(50)...)
}

// places returns those with small coordinates, wide ones, and those at the limits.
func places() []api.Point {
	out := []api.Point{at(most, most), at(-most, most), at(-most, -most), at(most, -most), at(most, 0), at(0, 1-most)}
	for x := -2; x <= 2; x++ {
		for y := -2; y <= 2; y++ {
			out = append(out, at(x, y))
		}
	}
	r := chance()
	for range 14 {
		out = append(out, at(sample.UpTo(r, most), sample.UpTo(r, most)), at(sample.UpTo(r, 5000), sample.UpTo(r, 5000)))
	}
	return out
}

// boxes returns boxes of a place, small ones, and wide ones.
func boxes() []api.Box {
	out := []api.Box{box(-most, most, -most, most), box(most, most, most, most), box(-most, -most, 0, 1), box(0, 10, 0, 20)}
	r := chance()
	for _, n := range []int{3, 100, 100000, most} {
		for range 12 {
			a, b, c, d := sample.UpTo(r, n), sample.UpTo(r, n), sample.UpTo(r, n), sample.UpTo(r, n)
			out = append(out, box(min(a, b), max(a, b), min(c, d), max(c, d)), box(a, a, min(c, d), max(c, d)), box(a, a, c, c))
		}
	}
	return out
}

// each calls f for all datums with all elements of a list.
func each[T any](list []T, f func(m api.Datum, x T)) {
	for _, m := range datums() {
		for _, x := range list {
			f(m, x)
		}
	}
}

// some returns the numbers at the ends of s, next to them, and in its middle.
func some(s api.Span) []int {
	return []int{s.Lo - 1, s.Lo, s.Lo + 1, s.Lo + (s.Hi-s.Lo)/2, s.Hi - 1, s.Hi, s.Hi + 1}
}

// around returns valid places in the corners, at the borders and in the middle of b, and around them.
func around(b api.Box) []api.Point {
	var out []api.Point
	for _, x := range some(b.X) {
		for _, y := range some(b.Y) {
			if hasPlace(box(-most, most, -most, most), at(x, y)) {
				out = append(out, at(x, y))
			}
		}
	}
	return out
}

// fitting returns places that p may have by m: among them those that are farthest from its middle.
func fitting(t *testing.T, m api.Datum, p api.Point) []api.Point {
	t.Helper()
	var out []api.Point
	b, _ := reach(m, p)
	for _, q := range around(b) {
		if expect.OK[bool](t)(datum.Fits(m, p, q)) {
			out = append(out, q)
		}
	}
	return out
}

// notDatums returns datums that are not valid.
func notDatums() []api.Datum {
	out := []api.Datum{
		{}, stretch(500000, 499999), stretch(-million, million), stretch(1<<32, 1<<32), stretch(1<<31, 1<<31), {B: million, D: million},
		{A: 500001, B: 1, D: 500001, E: 500000}, {A: million, E: million, Residue: -1}, {A: million, E: million, Residue: math.MinInt},
	}
	for _, n := range sample.Beyond(api.MaxPart) {
		out = append(out, stretch(n, million), stretch(million, n), stretch(n, n))
		out = append(out, api.Datum{A: million, B: n, E: million}, api.Datum{A: million, D: n, E: million}, api.Datum{B: n, D: -n})
	}
	for _, n := range sample.Beyond(api.MaxMove) {
		out = append(out, api.Datum{A: million, E: million, C: n}, api.Datum{A: million, E: million, F: n})
	}
	for _, n := range sample.Beyond(api.MaxResidue) {
		out = append(out, api.Datum{A: million, E: million, Residue: n})
	}
	return out
}

// notPlaces returns places that are not valid.
func notPlaces() []api.Point {
	var out []api.Point
	for _, n := range sample.Beyond(most) {
		out = append(out, at(n, 0), at(0, n), at(n, n))
	}
	return out
}

// notBoxes returns boxes that are not valid.
func notBoxes() []api.Box {
	out := []api.Box{box(1, 0, 0, 0), box(0, 0, 1, 0), box(most, -most, 0, 0), box(0, 0, math.MaxInt, math.MinInt)}
	for _, n := range sample.Beyond(most) {
		out = append(out, box(min(n, 0), max(n, 0), 0, 0), box(0, 0, min(n, 0), max(n, 0)), only(at(n, n)))
	}
	return out
}
