package feature_test

import (
	"math/rand/v2"
	"slices"

	"seamark/api"
	"seamark/internal/sample"
	"seamark/poly"
)

const (
	most   = api.MaxCoord
	deep   = api.MaxDepth
	radius = api.MaxRadius
)

// discKinds are the kinds of features that are discs.
var discKinds = []int{api.KindSounding, api.KindWreck, api.KindBuoy}

func at(x, y int) api.Point { return api.Point{X: x, Y: y} }

// path returns places of coordinates.
func path(l ...int) []api.Point {
	var out []api.Point
	for i := 0; i+1 < len(l); i += 2 {
		out = append(out, at(l[i], l[i+1]))
	}
	return out
}

func box(a, b, c, d int) api.Box {
	return api.Box{X: api.Span{Lo: a, Hi: b}, Y: api.Span{Lo: c, Hi: d}}
}

// rect returns the corners of a box.
func rect(a, b, c, d int) []api.Point { return path(a, c, b, c, b, d, a, d) }

// bent is a polygon that bends inward at (2, 2).
func bent() []api.Point { return path(0, 0, 4, 0, 4, 2, 2, 2, 2, 4, 0, 4) }

func disc(kind, x, y, r, depth int) api.Feature {
	return api.Feature{ID: 1, Kind: kind, At: at(x, y), Radius: r, Depth: depth}
}

func wreck(x, y, r, depth int) api.Feature { return disc(api.KindWreck, x, y, r, depth) }

func area(depth int, p []api.Point) api.Feature {
	return api.Feature{ID: 1, Kind: api.KindArea, Area: p, Depth: depth}
}

func zone(p []api.Point) api.Feature { return api.Feature{ID: 1, Kind: api.KindZone, Area: p} }

func light(x, y int, sectors ...api.Sector) api.Feature {
	return api.Feature{ID: 1, Kind: api.KindLight, At: at(x, y), Sectors: sectors}
}

// arc returns a sector from one direction to another one.
func arc(color, reach int, from, to api.Point) api.Sector {
	return api.Sector{From: from, To: to, Color: color, Range: reach}
}

// full returns a sector of all directions.
func full(color, reach int) api.Sector { return arc(color, reach, at(1, 0), at(1, 0)) }

// twelve returns as many sectors as a light can have.
func twelve() []api.Sector {
	var out []api.Sector
	for i := range api.MaxSectors {
		out = append(out, arc(1+i%3, 10+i, at(20-i, i), at(19-i, i+1)))
	}
	return out
}

func isLight(f api.Feature) bool { return f.Kind == api.KindLight }
func isDisc(f api.Feature) bool  { return slices.Contains(discKinds, f.Kind) }

// with returns f after a change. The lists of f are not changed.
func with(f api.Feature, change func(f *api.Feature)) api.Feature {
	g := copied(f)
	change(&g)
	return g
}

// copied returns f with lists of its own.
func copied(f api.Feature) api.Feature {
	f.Area, f.Sectors = slices.Clone(f.Area), slices.Clone(f.Sectors)
	return f
}

// moved returns f x farther to the east and y farther to the north.
func moved(f api.Feature, x, y int) api.Feature {
	return with(f, func(g *api.Feature) {
		for i, corner := range g.Area {
			g.Area[i] = at(corner.X+x, corner.Y+y)
		}
		if len(g.Area) == 0 {
			g.At = at(g.At.X+x, g.At.Y+y)
		}
	})
}

// numbered returns the features as a list, with the IDs from first on.
func numbered(first int, list ...api.Feature) []api.Feature {
	out := make([]api.Feature, len(list))
	for i, f := range list {
		f.ID = first + i
		out[i] = f
	}
	return out
}

// chance returns numbers that are the same in each run.
func chance() *rand.Rand { return rand.New(rand.NewPCG(7, 9)) }

// fromLeast returns corners from the least one on, in the same turn.
func fromLeast(p []api.Point) []api.Point {
	least := 0
	for i, q := range p {
		if q.X < p[least].X || q.X == p[least].X && q.Y < p[least].Y {
			least = i
		}
	}
	return slices.Concat(p[least:], p[:least])
}

// grown returns a polygon with at most n corners, to which places were added as long as it stayed a polygon.
func grown(r *rand.Rand, n int, place func() api.Point) []api.Point {
	var p []api.Point
	for try := 0; p == nil || try < 20*n && len(p) < n; try++ {
		next := []api.Point{place(), place(), place()}
		if p != nil {
			next = slices.Insert(slices.Clone(p), 1+r.IntN(len(p)), place())
		}
		if next = fromLeast(next); poly.Valid(next) {
			p = next
		}
	}
	return p
}

// depths returns one at the limits, or one of some that are nearly equal.
func depths(r *rand.Rand) int { return []int{0, 7, 8, 9, deep - 1, deep}[r.IntN(6)] }

// small returns features with coordinates from -6 to 6, of all kinds, and lights.
func small() []api.Feature {
	r := chance()
	var out []api.Feature
	for i := range 45 {
		reach := i % 6
		out = append(out, disc(discKinds[i%3], r.IntN(13-2*reach)-6+reach, r.IntN(13-2*reach)-6+reach, reach, depths(r)))
	}
	place := func() api.Point { return at(r.IntN(13)-6, r.IntN(13)-6) }
	for i := range 40 {
		out = append(out, area(depths(r), grown(r, 3+i%12, place)))
	}
	for i := range 5 {
		out = append(out, zone(grown(r, 3+3*i, place)), area(8, rect(-i, i+1, -i, i+1)), zone(rect(-i, i+1, -i, 2)))
	}
	return append(out, area(8, bent()), area(7, rect(-6, 6, -6, 6)), wreck(0, 0, 9, 8), wreck(0, 0, 6, 0))
}

// wide returns features at the limits and near them, of all kinds, with coordinates of any size.
func wide() []api.Feature {
	r := chance()
	var out []api.Feature
	for i := range 40 {
		reach := []int{radius, radius - 1, radius / 2, 0, r.IntN(radius + 1)}[i%5]
		out = append(out, disc(discKinds[i%3], sample.UpTo(r, most-reach), sample.UpTo(r, most-reach), reach, depths(r)))
	}
	place := func() api.Point { return at(sample.UpTo(r, most), sample.UpTo(r, most)) }
	for i := range 25 {
		out = append(out, area(depths(r), grown(r, 3+i%22, place)))
	}
	return append(out, area(0, rect(-most, most, -most, most)), zone(rect(-most, most, -most, most)), area(deep, rect(most-1, most, -most, 1-most)))
}

// lights returns those at two places, of which some look safer than others, and those at the limits.
func lights() []api.Feature {
	quarter, half := at(0, 1), at(-1, 0)
	return []api.Feature{
		light(0, 0), light(0, 0, full(api.White, 5)), light(0, 0, full(api.White, 6)), light(0, 0, full(api.Red, 9)),
		light(0, 0, arc(api.White, 5, at(1, 0), quarter)), light(0, 0, arc(api.White, 5, at(1, 0), half)),
		light(0, 0, arc(api.White, 5, at(2, 0), at(0, 3)), arc(api.Red, 5, quarter, half)),
		light(0, 0, arc(api.White, 5, quarter, half), arc(api.Green, 9, half, quarter)),
		light(0, 0, arc(api.White, 5, quarter, half), arc(api.White, 4, half, quarter)),
		light(0, 0, twelve()...), light(3, -4), light(3, -4, full(api.White, 5)), light(3, -4, arc(api.White, 5, at(1, 0), quarter)),
		light(most, -most, full(api.White, api.MaxDist)), light(-most, most, twelve()...),
	}
}

// everything returns all samples.
func everything() []api.Feature { return slices.Concat(small(), wide(), lights()) }

// families returns small features with lights, and wide ones with them.
func families() [][]api.Feature {
	return [][]api.Feature{append(small(), lights()...), append(wide(), lights()...)}
}

// eachPair calls f for pairs of features of the same family.
func eachPair(f func(f, g api.Feature)) {
	for _, list := range families() {
		for _, a := range list {
			for _, b := range list {
				f(a, b)
			}
		}
	}
}

// near returns places of small features and around them.
func near() []api.Point {
	var out []api.Point
	for x := -8; x <= 8; x++ {
		for y := -8; y <= 8; y++ {
			out = append(out, at(x, y))
		}
	}
	return out
}

// places returns those near small features, and some at the ends of wide ones.
func places() []api.Point {
	out := near()
	for _, f := range sample.Every(wide(), 4) {
		out = append(out, ends(f)...)
	}
	return out
}

// ends returns the corners of a polygon, and the places of a disc that are farthest from its middle, if any are.
func ends(f api.Feature) []api.Point {
	x, y, r := f.At.X, f.At.Y, f.Radius
	switch {
	case isDisc(f):
		return path(x, y, x+r, y, x, y+r, x-r, y, x, y-r)
	case isLight(f):
		return path(x, y)
	}
	return f.Area
}

// beside returns places at the ends of f, and next to them.
func beside(f api.Feature) []api.Point {
	var out []api.Point
	for _, p := range ends(f) {
		for _, q := range path(p.X, p.Y, p.X+1, p.Y, p.X-1, p.Y, p.X, p.Y+1, p.X, p.Y-1) {
			if max(q.X, -q.X, q.Y, -q.Y) <= most {
				out = append(out, q)
			}
		}
	}
	return out
}

// notPlaces returns points that are no places.
func notPlaces() []api.Point {
	var out []api.Point
	for _, n := range sample.Beyond(most) {
		out = append(out, at(n, 0), at(0, n), at(n, n), at(most, n))
	}
	return out
}

// outside returns numbers that are not from 0 to limit.
func outside(limit int) []int {
	return append(sample.Beyond(limit), -1, -2, -limit)
}

// one returns a valid feature of each kind, with an ID and a Symbol.
func one() []api.Feature {
	out := []api.Feature{light(3, 4, full(api.White, 5)), light(3, 4), area(50, bent()), zone(bent())}
	for _, kind := range discKinds {
		out = append(out, disc(kind, 3, 4, 10, 50), disc(kind, 0, 0, 0, 0))
	}
	for i := range out {
		out[i].ID, out[i].Symbol = 77, 5
	}
	return out
}

// notFeatures returns features that are not valid.
func notFeatures() []api.Feature {
	out := []api.Feature{{}}
	for _, f := range one() {
		out = append(out, badNumbers(f)...)
		out = append(out, badPlaces(f)...)
		out = append(out, strangeFields(f)...)
	}
	return append(out, badLists()...)
}

// badNumbers returns what f is with an ID, a Symbol, a Kind, a Depth or a Radius out of its range.
func badNumbers(f api.Feature) []api.Feature {
	var out []api.Feature
	for _, n := range append(outside(api.MaxID), 0) {
		out = append(out, with(f, func(f *api.Feature) { f.ID = n }))
	}
	for _, n := range outside(api.MaxSymbol) {
		out = append(out, with(f, func(f *api.Feature) { f.Symbol = n }))
	}
	for _, n := range append(outside(api.KindZone), 0) {
		out = append(out, with(f, func(f *api.Feature) { f.Kind = n }))
	}
	for _, n := range outside(deep) {
		out = append(out, with(f, func(f *api.Feature) { f.Depth = n }))
	}
	for _, n := range outside(radius) {
		out = append(out, with(f, func(f *api.Feature) { f.Radius = n }))
	}
	return out
}

// badPlaces returns what f is at points that are no places, and with a disc that goes beyond the limits.
func badPlaces(f api.Feature) []api.Feature {
	var out []api.Feature
	for _, p := range notPlaces() {
		out = append(out, with(f, func(f *api.Feature) { f.At = p }))
	}
	if !isDisc(f) {
		return out
	}
	for _, r := range []int{1, 7, radius - 1, radius} {
		end := most - r + 1
		for _, p := range path(end, 0, -end, 0, 0, end, 0, -end, end, end, -end, most, most, -end, most, 0, 0, -most) {
			out = append(out, with(f, func(f *api.Feature) { f.At, f.Radius = p, r }))
		}
	}
	return out
}

// strangeFields returns what f is with fields that its kind does not have.
func strangeFields(f api.Feature) []api.Feature {
	var out []api.Feature
	if isDisc(f) || isLight(f) {
		out = append(out, with(f, func(f *api.Feature) { f.Area = bent() }), with(f, func(f *api.Feature) { f.Area = path(0, 0) }))
	} else {
		for _, p := range path(1, 0, 0, 1, -1, 0, 0, -1) {
			out = append(out, with(f, func(f *api.Feature) { f.At = p }))
		}
		out = append(out, with(f, func(f *api.Feature) { f.Area = nil }))
	}
	if !isLight(f) {
		out = append(out, with(f, func(f *api.Feature) { f.Sectors = twelve() }), with(f, func(f *api.Feature) { f.Sectors = make([]api.Sector, 1) }))
	}
	if !isDisc(f) {
		out = append(out, with(f, func(f *api.Feature) { f.Radius = 1 }), with(f, func(f *api.Feature) { f.Radius = radius }))
	}
	if isLight(f) || f.Kind == api.KindZone {
		out = append(out, with(f, func(f *api.Feature) { f.Depth = 1 }), with(f, func(f *api.Feature) { f.Depth = deep }))
	}
	return out
}

// badLists returns areas, zones and lights whose polygon or whose sectors are not valid.
func badLists() []api.Feature {
	clockwise := bent()
	slices.Reverse(clockwise[1:])
	var out []api.Feature
	for _, p := range [][]api.Point{
		nil, {}, path(0, 0), path(0, 0, 1, 0), path(0, 0, 1, 1, 2, 2), path(4, 0, 0, 4, 0, 0), path(0, 0, 4, 4, 4, 0, 0, 4), clockwise,
		path(0, 0, most+1, 0, 0, 4), slices.Repeat(bent(), 5), slices.Repeat(path(0, 0), 10000),
	} {
		out = append(out, area(0, p), zone(p))
	}
	white := full(api.White, 5)
	return append(out,
		light(0, 0, api.Sector{}), light(0, 0, white, white), light(0, 0, append(twelve(), full(api.White, 5))...),
		light(0, 0, append(twelve(), arc(api.White, 5, at(-1, 0), at(-1, -1)))...), light(0, 0, slices.Repeat(twelve(), 1000)...),
		light(0, 0, full(0, 5)), light(0, 0, full(4, 5)), light(0, 0, full(api.White, 0)), light(0, 0, full(api.White, api.MaxDist+1)),
		light(0, 0, arc(api.White, 5, at(0, 0), at(1, 0))), light(0, 0, arc(api.White, 5, at(1, 0), at(most+1, 0))),
	)
}

// notLists returns lists of features that are not valid.
func notLists() [][]api.Feature {
	f, g := wreck(0, 0, 1, 5), area(9, bent())
	out := [][]api.Feature{
		{f, g}, {with(f, func(f *api.Feature) { f.ID = 2 }), g}, append(numbered(5, f, g), numbered(6, f)...), append(numbered(5, f, g), numbered(3, f)...),
		numbered(1, slices.Repeat([]api.Feature{f}, api.MaxFeatures+1)...), numbered(api.MaxID, f, g), numbered(0, f, g),
		slices.Repeat([]api.Feature{f}, 100000),
	}
	for _, bad := range notFeatures() {
		first, last := f, g
		first.ID, last.ID = max(min(bad.ID, api.MaxID)-1, 1), min(max(bad.ID, 1), api.MaxID-1)+1
		out = append(out, []api.Feature{bad}, []api.Feature{first, bad}, []api.Feature{bad, last})
	}
	return out
}
