package feature_test

import (
	"math/rand/v2"
	"slices"
	"testing"

	"seamark/api"
	"seamark/feature"
	"seamark/internal/expect"
	"seamark/internal/sample"
)

// covers reports whether f covers p, and fails the test if there is an error.
func covers(t *testing.T, f api.Feature, p api.Point) bool {
	t.Helper()
	return expect.OK[bool](t)(feature.Covers(f, p))
}

// shown returns the shown depth of a list at p, and fails the test if there is an error.
func shown(t *testing.T, list []api.Feature, p api.Point) int {
	t.Helper()
	return expect.OK[int](t)(feature.Shown(list, p))
}

// family is features, and what each of them says of each other one.
type family struct {
	features []api.Feature
	says     [][]bool
}

// asked returns the families, with what ask says.
func asked(t *testing.T, ask func(f, g api.Feature) (bool, api.Errno)) []family {
	t.Helper()
	var out []family
	for _, list := range families() {
		says := make([][]bool, len(list))
		for i, f := range list {
			for _, g := range list {
				says[i] = append(says[i], expect.OK[bool](t)(ask(f, g)))
			}
		}
		out = append(out, family{list, says})
	}
	return out
}

// coverage returns, for each of the features, which places it covers. The places are those of small features, and those at the ends of wide ones.
func coverage(t *testing.T, list []api.Feature) [][]bool {
	t.Helper()
	all := near()
	for _, f := range sample.Every(wide(), 2) {
		all = append(all, beside(f)...)
	}
	out := make([][]bool, len(list))
	for i, f := range list {
		for _, p := range all {
			out[i] = append(out[i], covers(t, f, p))
		}
	}
	return out
}

// common returns how many places are in both, and how many in the first one alone.
func common(a, b []bool) (both, first int) {
	for i, is := range a {
		switch {
		case is && b[i]:
			both++
		case is:
			first++
		}
	}
	return both, first
}

// P7.2: what a feature covers lies in its box, whose sides it reaches unless it is a light.
func TestCoveredPlacesAreInTheBox(t *testing.T) {
	count := 0
	for _, f := range everything() {
		b := expect.OK[api.Box](t)(feature.Box(f))
		for _, p := range append(places(), beside(f)...) {
			if !covers(t, f, p) {
				continue
			}
			count++
			if p.X < b.X.Lo || p.X > b.X.Hi || p.Y < b.Y.Lo || p.Y > b.Y.Hi {
				t.Errorf("%v covers %v, which is not in %v", f, p, b)
			}
		}
		reached := [4]bool{}
		for _, p := range ends(f) {
			if covers(t, f, p) {
				for i, on := range [4]bool{p.X == b.X.Lo, p.X == b.X.Hi, p.Y == b.Y.Lo, p.Y == b.Y.Hi} {
					reached[i] = reached[i] || on
				}
			}
		}
		if reached != [4]bool{true, true, true, true} && !isLight(f) {
			t.Errorf("%v does not reach all sides of %v", f, b)
		}
	}
	if count < 5000 {
		t.Errorf("only %d places are covered", count)
	}
}

// P7.2: what one covers that another one holds, this other one covers.
func TestHeldPlacesAreCovered(t *testing.T) {
	count := 0
	for _, x := range asked(t, feature.Holds) {
		covered := coverage(t, x.features)
		for i, f := range x.features {
			for k, g := range x.features {
				if !x.says[i][k] {
					continue
				}
				both, missing := common(covered[k], covered[i])
				count += both
				if missing > 0 {
					t.Errorf("%v holds %v, and does not cover %d places", f, g, missing)
				}
			}
		}
	}
	if count < 5000 {
		t.Errorf("only %d places are covered", count)
	}
}

// eachChain calls f with the features of which the one with the index i says it of the first one, and that says it of the second one.
func eachChain(says [][]bool, i int, f func(k, m int)) {
	for k := range says {
		for m := range says {
			if says[i][k] && says[k][m] && k != i && k != m {
				f(k, m)
			}
		}
	}
}

// P7.3: each feature holds itself; a feature that holds another one holds all that this one holds.
func TestHolding(t *testing.T) {
	chains := 0
	for _, x := range asked(t, feature.Holds) {
		for i, f := range x.features {
			if !x.says[i][i] {
				t.Errorf("%v does not hold itself", f)
			}
			eachChain(x.says, i, func(k, m int) {
				chains++
				if !x.says[i][m] {
					t.Errorf("%v holds %v, which holds %v", f, x.features[k], x.features[m])
				}
			})
		}
	}
	if chains < 5000 {
		t.Errorf("only %d features are held by held ones", chains)
	}
}

// P7.4: each feature stands for itself; what stands for a feature that stands for another one stands for this one, too.
func TestStanding(t *testing.T) {
	chains := 0
	for _, x := range asked(t, feature.Stands) {
		for i, f := range x.features {
			if !x.says[i][i] {
				t.Errorf("%v does not stand for itself", f)
			}
			eachChain(x.says, i, func(k, m int) {
				chains++
				if !x.says[i][m] {
					t.Errorf("%v stands for %v, which stands for %v", x.features[m], x.features[k], f)
				}
			})
		}
	}
	if chains < 500 {
		t.Errorf("only %d features stand for those that stand for others", chains)
	}
}

// P7.4: a feature that stands for one that is no light shows at most its depth wherever this covers.
func TestStandingShowsNoMore(t *testing.T) {
	count := 0
	eachPair(func(f, g api.Feature) {
		if isLight(f) || !expect.OK[bool](t)(feature.Stands(f, g)) {
			return
		}
		for _, p := range slices.Concat(beside(f), beside(g), path(0, 0, 1, 1, -1, 2, 2, -2)) {
			if covers(t, f, p) {
				count++
				if depth := shown(t, []api.Feature{g}, p); depth > f.Depth {
					t.Errorf("%v stands for %v, and shows %d at %v", g, f, depth, p)
				}
			}
		}
	})
	if count < 2000 {
		t.Errorf("only %d places are covered", count)
	}
}

// replaced returns a list in which something stands for each of the features with these indices, and one more is.
func (x family) replaced(r *rand.Rand, indices []int) []api.Feature {
	out := []api.Feature{x.features[r.IntN(len(x.features))]}
	for _, i := range indices {
		var by []api.Feature
		for k, g := range x.features {
			if x.says[i][k] {
				by = append(by, g)
			}
		}
		out = append(out, by[r.IntN(len(by))])
	}
	r.Shuffle(len(out), func(i, k int) { out[i], out[k] = out[k], out[i] })
	return numbered(1+r.IntN(50), out...)
}

// P7.5: a list in which something stands for each feature of another list shows nowhere more than this one.
func TestListsThatStand(t *testing.T) {
	r := chance()
	less := 0
	for _, x := range asked(t, feature.Stands) {
		for n := range 60 {
			indices := r.Perm(len(x.features))[:n%20]
			var before []api.Feature
			for _, i := range indices {
				before = append(before, x.features[i])
			}
			before = numbered(1, before...)
			after := x.replaced(r, indices)
			for _, p := range sample.Every(places(), 5) {
				was, is := shown(t, before, p), shown(t, after, p)
				if is > was {
					t.Errorf("%v shows %d at %v, and %v, which stands for it, %d", before, was, p, after, is)
				}
				if is < was {
					less++
				}
			}
		}
	}
	if less < 1000 {
		t.Errorf("less is shown only %d times", less)
	}
}

// P7.5: a list without one of its features shows nowhere less.
func TestListsWithoutOne(t *testing.T) {
	r := chance()
	more := 0
	all := everything()
	for n := 1; n < 30; n += 2 {
		var list []api.Feature
		for _, i := range r.Perm(len(all))[:n] {
			list = append(list, all[i])
		}
		list = numbered(1, list...)
		for i := range list {
			less := slices.Delete(slices.Clone(list), i, i+1)
			for _, p := range append(sample.Every(places(), 15), beside(list[i])...) {
				was, is := shown(t, list, p), shown(t, less, p)
				if is < was {
					t.Errorf("%v shows %d at %v, but %d without %v", list, was, p, is, list[i])
				}
				if is > was {
					more++
				}
			}
		}
	}
	if more < 1000 {
		t.Errorf("more is shown only %d times", more)
	}
}

// P7.6: features touch each other, or none of both the other one; a feature that holds another one, which covers something, touches it.
func TestTouchingBothWays(t *testing.T) {
	holding := 0
	eachPair(func(f, g api.Feature) {
		touch := expect.OK[bool](t)(feature.Touch(f, g))
		if touch != expect.OK[bool](t)(feature.Touch(g, f)) {
			t.Errorf("%v and %v touch in one order alone", f, g)
		}
		if expect.OK[bool](t)(feature.Holds(f, g)) && !isLight(g) {
			holding++
			if !touch {
				t.Errorf("%v holds %v, and does not touch it", f, g)
			}
		}
	})
	if holding < 500 {
		t.Errorf("only %d features hold others", holding)
	}
}

// P7.6: features touch if they cover a common place; if they do not, they cover none.
func TestTouchingPlaces(t *testing.T) {
	count, apart := 0, 0
	for _, x := range asked(t, feature.Touch) {
		covered := coverage(t, x.features)
		for i, f := range x.features {
			for k, g := range x.features {
				both, _ := common(covered[i], covered[k])
				count += both
				if x.says[i][k] {
					continue
				}
				apart++
				if both > 0 {
					t.Errorf("%v and %v cover %d common places, and do not touch", f, g, both)
				}
			}
		}
	}
	if count < 5000 || apart < 1000 {
		t.Errorf("%d places are common, and %d pairs are apart", count, apart)
	}
}

// P7.7: if features and places are moved by the same numbers, and stay valid, all answers stay the same.
func TestMoving(t *testing.T) {
	list := append(sample.Every(small(), 3), lights()[:13]...)
	for _, by := range path(1, 0, 0, -1, 12345, -678, most-9, 9-most, 9-most, most-9) {
		for _, f := range list {
			there := moved(f, by.X, by.Y)
			if !feature.Valid(there) {
				t.Fatalf("%v is not valid", there)
			}
			b := boxOf(f)
			if got := expect.OK[api.Box](t)(feature.Box(there)); got != box(b.X.Lo+by.X, b.X.Hi+by.X, b.Y.Lo+by.Y, b.Y.Hi+by.Y) {
				t.Errorf("Box of %v, moved by %v: %v", f, by, got)
			}
			for _, p := range near() {
				if covers(t, there, at(p.X+by.X, p.Y+by.Y)) != covers(t, f, p) {
					t.Errorf("%v covers %v, or not, if both are moved by %v", f, p, by)
				}
			}
			for _, g := range list {
				for i, ask := range ofTwo {
					if expect.OK[bool](t)(ask(there, moved(g, by.X, by.Y))) != expect.OK[bool](t)(ask(f, g)) {
						t.Errorf("function %d of %v and %v is another one if both are moved by %v", i, f, g, by)
					}
				}
			}
		}
	}
}

// P7.7: what lists show stays the same, too.
func TestMovingLists(t *testing.T) {
	list := numbered(1, append(sample.Every(small(), 2), lights()[:13]...)...)
	for _, by := range path(1, 0, 0, -1, 12345, -678, most-9, 9-most, 9-most, most-9) {
		var there []api.Feature
		for _, f := range list {
			there = append(there, moved(f, by.X, by.Y))
		}
		for n := 1; n < len(list); n += 5 {
			for _, p := range sample.Every(near(), 2) {
				if shown(t, there[n:], at(p.X+by.X, p.Y+by.Y)) != shown(t, list[n:], p) {
					t.Errorf("%v shows something else at %v, if both are moved by %v", list[n:], p, by)
				}
			}
		}
	}
}

// alike returns features of which some are equal.
func alike() []api.Feature {
	var out []api.Feature
	for _, f := range append(one(), light(1, 1, twelve()...), area(8, rect(0, 4, 0, 4)), zone(rect(0, 4, 0, 4)), api.Feature{}) {
		out = append(out, f, copied(f))
		for i, change := range append(changes(), changesOfLists(f)...) {
			if i%3 == 0 {
				out = append(out, with(f, change))
			}
		}
	}
	return out
}

// P7.8: Same is an equivalence.
func TestEquivalence(t *testing.T) {
	list := alike()
	equal := 0
	for _, f := range list {
		if !feature.Same(f, f) {
			t.Errorf("%v is not equal to itself", f)
		}
		for _, g := range list {
			if feature.Same(f, g) != feature.Same(g, f) {
				t.Errorf("%v and %v are equal in one order alone", f, g)
			}
			if !feature.Same(f, g) {
				continue
			}
			equal++
			for _, h := range list {
				if feature.Same(g, h) != feature.Same(f, h) {
					t.Errorf("%v and %v are equal, and one of them is equal to %v", f, g, h)
				}
			}
		}
	}
	if equal <= len(list) {
		t.Errorf("only %d pairs are equal", equal)
	}
}

// P7.8: equal features have the same answers, whether their empty lists are nil or not.
func TestEqualFeatures(t *testing.T) {
	others := slices.Concat(sample.Every(everything(), 9), one(), sample.Every(notFeatures(), 40))
	for _, f := range slices.Concat(sample.Every(everything(), 4), one(), sample.Every(notFeatures(), 20)) {
		g := f
		g.Area, g.Sectors = append([]api.Point{}, f.Area...), append([]api.Sector{}, f.Sectors...)
		if !feature.Same(f, g) || feature.Valid(f) != feature.Valid(g) || expect.Result(feature.Box(f)) != expect.Result(feature.Box(g)) {
			t.Errorf("%v and what is equal to it differ", f)
		}
		for _, p := range append(beside(f), at(0, 0), at(1, 1), at(most+1, 0)) {
			if expect.Result(feature.Covers(f, p)) != expect.Result(feature.Covers(g, p)) {
				t.Errorf("%v and what is equal to it do not both cover %v", f, p)
			}
			if expect.Result(feature.Shown([]api.Feature{f}, p)) != expect.Result(feature.Shown([]api.Feature{g}, p)) {
				t.Errorf("%v and what is equal to it show different depths at %v", f, p)
			}
		}
		for _, h := range others {
			for i, ask := range ofTwo {
				if expect.Result(ask(f, h)) != expect.Result(ask(g, h)) || expect.Result(ask(h, f)) != expect.Result(ask(h, g)) {
					t.Errorf("function %d of %v and %v is another one of what is equal", i, f, h)
				}
			}
		}
	}
}
