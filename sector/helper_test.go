package sector_test

import (
	"math/rand/v2"
	"slices"

	"seamark/api"
	"seamark/internal/sample"
)

const most = api.MaxDir

func at(x, y int) api.Point { return api.Point{X: x, Y: y} }

func arc(color, reach int, from, to api.Point) api.Sector {
	return api.Sector{From: from, To: to, Color: color, Range: reach}
}

// between returns a sector whose color and range do not matter.
func between(from, to api.Point) api.Sector { return arc(api.Green, 9, from, to) }

// white is the light of the chapter's examples, with its range.
func white(reach int) []api.Sector {
	return []api.Sector{arc(api.White, reach, at(1, 0), at(0, 1))}
}

// times returns a direction alike v, n times as long.
func times(v api.Point, n int) api.Point { return at(n*v.X, n*v.Y) }

// longest returns how many times v is a direction.
func longest(v api.Point) int { return most / max(v.X, -v.X, v.Y, -v.Y) }

// quarter returns v, turned by a quarter counterclockwise.
func quarter(v api.Point) api.Point { return at(-v.Y, v.X) }

// quarters returns the light, turned by a quarter.
func quarters(list []api.Sector) []api.Sector {
	var out []api.Sector
	for _, s := range list {
		out = append(out, arc(s.Color, s.Range, quarter(s.From), quarter(s.To)))
	}
	return out
}

// chance returns numbers that are the same in each run.
func chance() *rand.Rand { return rand.New(rand.NewPCG(5, 8)) }

// byAngle puts directions in order, each of those alike once.
func byAngle(list []api.Point) []api.Point {
	slices.SortFunc(list, func(v, w api.Point) int { return angle(v).Cmp(angle(w)) })
	return slices.CompactFunc(list, func(v, w api.Point) bool { return angle(v).Cmp(angle(w)) == 0 })
}

// ring returns the directions with coordinates up to n, by their angles, each of those alike once.
func ring(n int) []api.Point {
	var out []api.Point
	for x := -n; x <= n; x++ {
		for y := -n; y <= n; y++ {
			if v := at(x, y); isDirection(v) {
				out = append(out, toward(angle(v)))
			}
		}
	}
	return byAngle(out)
}

// wide returns directions at the limits, of which some have nearly the same angle, in all quarters, and others.
func wide() []api.Point {
	r := chance()
	out := []api.Point{at(most, 0), at(most, 1), at(most, most-1), at(most-1, most-2), at(most, most), at(most-1, most), at(1, most), at(most/2+1, most/2)}
	for range 6 {
		if v := at(sample.UpTo(r, most), sample.UpTo(r, most)); isDirection(v) {
			out = append(out, v)
		}
	}
	for _, v := range slices.Clone(out) {
		out = append(out, quarter(v), times(v, -1), quarter(times(v, -1)))
	}
	return byAngle(out)
}

// eachList calls f with directions that are near to each other, those at the limits, and those of both sorts.
func eachList(f func(directions []api.Point)) {
	f(ring(2))
	f(wide())
	f(byAngle(append(ring(1), sample.Every(wide(), 3)...)))
}

// lengthened returns a direction alike v, of any length.
func lengthened(r *rand.Rand, v api.Point) api.Point {
	return times(v, []int{1, 1 + r.IntN(longest(v)), longest(v)}[r.IntN(3)])
}

// reordered returns the light with its sectors in another order, and with directions of other lengths.
func reordered(r *rand.Rand, list []api.Sector) []api.Sector {
	var out []api.Sector
	for _, i := range r.Perm(len(list)) {
		s := list[i]
		out = append(out, arc(s.Color, s.Range, lengthened(r, toward(angle(s.From))), lengthened(r, toward(angle(s.To)))))
	}
	return out
}

// lightOf returns a light with n turns among these directions, which are in order. Neighbours often show the same.
func lightOf(r *rand.Rand, n int, directions []api.Point) []api.Sector {
	turns := r.Perm(len(directions))[:n]
	slices.Sort(turns)
	var out []api.Sector
	for i, k := range turns {
		if r.IntN(4) > 0 {
			reach := []int{1, 8, 8, api.MaxDist}[r.IntN(4)]
			out = append(out, arc(1+r.IntN(3), reach, directions[k], directions[turns[(i+1)%n]]))
		}
	}
	return reordered(r, out)
}

// twelve returns a light with as many sectors as possible.
func twelve() []api.Sector {
	var out []api.Sector
	for i, v := range ring(2)[:12] {
		out = append(out, arc(1+i%3, 10+i, v, ring(2)[i+1]))
	}
	return out
}

// lights returns dark ones, those that show the same everywhere, and others, up to those with twelve sectors.
func lights() [][]api.Sector {
	r := chance()
	out := [][]api.Sector{nil, {}, white(50), twelve(), {arc(api.White, 8, at(3, 5), at(6, 10))}, {arc(api.White, 9, at(-2, 0), at(-1, 0))}}
	for n := 1; n <= 12; n++ {
		for range 3 {
			out = append(out, lightOf(r, min(n, 8), ring(1)), lightOf(r, n, ring(3)), lightOf(r, n, wide()))
		}
	}
	return out
}

// inside returns a direction that s has between its From and its To, if there is one.
func inside(s api.Sector) api.Point {
	_, middles := cuts([]api.Sector{s})
	for _, a := range middles {
		if v := toward(a); passes(s, a) && isDirection(v) {
			return v
		}
	}
	return s.To
}

// varied returns a light that differs little from list, or not at all.
func varied(r *rand.Rand, list []api.Sector) []api.Sector {
	out := reordered(r, list)
	if len(out) == 0 {
		return white(r.IntN(9) + 1)
	}
	s := &out[0]
	v := inside(*s)
	switch r.IntN(7) {
	case 0:
		s.Range = min(s.Range+1, api.MaxDist)
	case 1:
		s.Range = max(s.Range-1, 1)
	case 2:
		s.Color = 1 + s.Color%3
	case 3:
		s.From = v
	case 4:
		s.To = v
	case 5:
		out = append(out, arc(s.Color, s.Range, v, s.To))
		out[0].To = v
	}
	if !isLight(out) {
		return reordered(r, list)
	}
	return out
}

// eachPair calls f for pairs of lights: of one with itself, with those that differ little from it, and with others.
func eachPair(f func(a, b []api.Sector)) {
	r := chance()
	all := lights()
	for i, a := range all {
		f(a, a)
		for range 8 {
			b := varied(r, a)
			f(a, b)
			f(b, a)
		}
		for _, b := range sample.Every(all[i%9:], 9) {
			f(a, b)
		}
	}
}

// around returns directions at the turns of lights, beside them, and between them, and those of ring(1).
func around(lists ...[]api.Sector) []api.Point {
	out := ring(1)
	turns, middles := cuts(lists...)
	for _, a := range append(turns, middles...) {
		v := toward(a)
		for _, v := range []api.Point{v, times(v, longest(v))} {
			out = append(out, v, at(v.X+1, v.Y), at(v.X-1, v.Y), at(v.X, v.Y+1), at(v.X, v.Y-1))
		}
	}
	return slices.DeleteFunc(out, func(v api.Point) bool { return !isDirection(v) })
}

// notDirections returns points that are no directions.
func notDirections() []api.Point {
	out := []api.Point{{}}
	for _, n := range sample.Beyond(most) {
		out = append(out, at(n, 0), at(0, n), at(n, 1), at(-1, n), at(n, n))
	}
	return out
}

// notSectors returns sectors that are not valid.
func notSectors() []api.Sector {
	out := []api.Sector{{}}
	for _, v := range notDirections() {
		out = append(out, between(v, at(0, 1)), between(at(0, 1), v), between(v, v))
	}
	for _, n := range append(sample.Beyond(3), 0, -1, -2, -3) {
		out = append(out, arc(n, 9, at(1, 0), at(0, 1)))
	}
	for _, n := range append(sample.Beyond(api.MaxDist), 0, -1, -api.MaxDist) {
		out = append(out, arc(api.White, n, at(1, 0), at(0, 1)))
	}
	return out
}

// notLights returns lists that are no lights.
func notLights() [][]api.Sector {
	full := between(at(1, 0), at(2, 0))
	out := [][]api.Sector{
		append(twelve(), between(ring(2)[12], ring(2)[13])), // one too many
		slices.Repeat(white(50), 1000),
		append(white(50), white(50)...),
		append(white(50), between(at(1, 1), at(-1, 0))),    // they cross
		append(white(50), between(at(-1, 0), at(most, 1))), // the second one ends in the first one
		append(white(50), between(at(2, 1), at(1, 2))),     // one lies in the other one
		append(white(50), between(at(0, 1), at(most, 1))),  // they cross where angles begin again
		append(white(50), between(at(1, 1), at(2, 2))),     // one goes all around
		{full, full},
		{full, between(at(0, -1), at(0, -1))},
		{between(at(1, 0), at(-1, 0)), between(at(-1, 0), at(1, 0)), between(at(0, -1), at(1, -1))},
	}
	for _, s := range notSectors() {
		out = append(out, []api.Sector{s}, append(white(50), s), append([]api.Sector{s}, white(50)...))
	}
	return out
}
