package tide_test

import (
	"slices"
	"testing"

	"seamark/api"
	"seamark/internal/expect"
	"seamark/internal/sample"
	"seamark/tide"
)

// heightOf returns the heights of x from from to until, and fails the test if they are not known.
func heightOf(t *testing.T, x api.Tide, from, until int) api.Span {
	t.Helper()
	return expect.OK[api.Span](t)(tide.Height(x, from, until))
}

// windowsOf returns the windows of x for need, and fails the test if there is an error.
func windowsOf(t *testing.T, x api.Tide, need int) []api.Span {
	t.Helper()
	return expect.OK[[]api.Span](t)(tide.Windows(x, need))
}

// inOne reports whether s is in one of the windows.
func inOne(s api.Span, windows []api.Span) bool {
	return slices.ContainsFunc(windows, func(w api.Span) bool { return within(s, w) })
}

// P6.2: the height of a part of some times is within that of all, and that of two parts that touch is the least span that has both.
func TestParts(t *testing.T) {
	narrower := 0
	for _, x := range tables() {
		list := times(x, 12)
		for i, from := range list {
			for k, until := range list[i:] {
				all := heightOf(t, x, from, until)
				for m, middle := range list[i : i+k+1] {
					first, second := heightOf(t, x, from, middle), heightOf(t, x, middle, until)
					if joined(first, second) != all {
						t.Errorf("heights of %v from %d to %d, and from there to %d: %v and %v, but %v of all", x, from, middle, until, first, second, all)
					}
					if next := middle + 1; next <= until && joined(first, heightOf(t, x, next, until)) != all {
						t.Errorf("heights of %v from %d to %d, and from one later to %d, are not %v", x, from, middle, until, all)
					}
					for _, end := range list[i+m : i+k+1] {
						part := heightOf(t, x, middle, end)
						if !within(part, all) {
							t.Errorf("heights of %v from %d to %d: %v, but %v of all from %d to %d", x, middle, end, part, all, from, until)
						}
						if part != all {
							narrower++
						}
					}
				}
			}
		}
	}
	if narrower < 5000 {
		t.Errorf("only %d parts are narrower", narrower)
	}
}

// someOf returns a number of s: often one of its ends.
func someOf(r sample.Chance, s api.Span) int {
	return []int{s.Lo, s.Hi, s.Lo + r.IntN(s.Hi-s.Lo+1)}[r.IntN(3)]
}

// trueWater returns a height of the water at each minute of x, as x allows it.
func trueWater(r sample.Chance, x api.Tide) []int {
	var out []int
	for k, s := range x.Heights {
		at := someOf(r, s)
		if k > 0 {
			before := out[len(out)-1]
			for range x.Step - 1 {
				out = append(out, someOf(r, of(min(before, at), max(before, at))))
			}
		}
		out = append(out, at)
	}
	return out
}

// P6.3: water that is as the table says at its rows, and between them between two rows, always is in Height.
func TestTrueHeights(t *testing.T) {
	r := chance()
	between := 0
	for _, x := range tables() {
		for range 5 {
			heights := trueWater(r, x)
			for at, height := range heights {
				if len(heights) > 1000 && r.IntN(200) > 0 {
					continue
				}
				now := x.Start + at
				from, until := max(now-r.IntN(40), x.Start), min(now+r.IntN(40), last(x))
				if !has(heightOf(t, x, now, now), height) || !has(heightOf(t, x, from, until), height) {
					t.Errorf("%v: the water is %d high at %d", x, height, now)
				}
				if at%x.Step > 0 {
					between++
				}
			}
		}
	}
	if between < 5000 {
		t.Errorf("only %d heights are between rows", between)
	}
}

// P6.3: the span of a time is no wider than the heights that the water can have then.
func TestTrueEnds(t *testing.T) {
	for _, x := range smallTables() {
		for at := x.Start; at <= last(x); at++ {
			k := (at - x.Start) / x.Step
			rows := x.Heights[k : k+1]
			if at%x.Step != x.Start%x.Step {
				rows = x.Heights[k : k+2]
			}
			got := heightOf(t, x, at, at)
			lows := slices.ContainsFunc(rows, func(s api.Span) bool { return s.Lo == got.Lo })
			highs := slices.ContainsFunc(rows, func(s api.Span) bool { return s.Hi == got.Hi })
			if !lows || !highs {
				t.Errorf("%v at %d: %v is wider than the water", x, at, got)
			}
		}
	}
}

// P6.4: the water surely is high enough exactly at the times in the windows, which ascend, with a minute between.
func TestWindowsAreHigh(t *testing.T) {
	counts := map[bool]int{}
	for _, x := range tables() {
		for _, need := range needs(x, 12) {
			windows := windowsOf(t, x, need)
			for i, w := range windows {
				if w.Lo > w.Hi || w.Lo < x.Start || w.Hi > last(x) || i > 0 && w.Lo < windows[i-1].Hi+2 {
					t.Errorf("windows of %v for %d: %v", x, need, windows)
				}
				if heightOf(t, x, w.Lo, w.Hi).Lo < need {
					t.Errorf("%v is not %d high all the time from %d to %d", x, need, w.Lo, w.Hi)
				}
			}
			for _, at := range times(x, 60) {
				high := heightOf(t, x, at, at).Lo >= need
				counts[high]++
				if high != inOne(of(at, at), windows) {
					t.Errorf("%v is %d high at %d: %v, but the windows are %v", x, need, at, high, windows)
				}
			}
		}
	}
	if counts[true] < 5000 || counts[false] < 5000 {
		t.Errorf("the water is high, or not: %v", counts)
	}
}

// P6.5: from Next on the water surely is high enough for so long, and it is not from any earlier time on.
func TestNextIsFirst(t *testing.T) {
	found, none := 0, 0
	for _, x := range smallTables() {
		stays := func(from, long, need int) bool {
			s, e := tide.Height(x, from, from+long)
			return e == api.OK && s.Lo >= need
		}
		for _, need := range needs(x, 8) {
			for _, long := range []int{0, 1, x.Step, x.Step + 1, 3 * x.Step} {
				for _, from := range append(times(x, 6), 0) {
					first, e := tide.Next(x, need, from, long)
					end := last(x) + 1
					if e == api.OK {
						found++
						end = first
					} else {
						none++
					}
					if e == api.OK && (first < from || !stays(first, long, need)) {
						t.Errorf("%v does not stay %d high for %d minutes from %d on, but Next from %d on says so", x, need, long, first, from)
					}
					for at := max(from, x.Start); at < end && at+long <= last(x); at++ {
						if stays(at, long, need) {
							t.Errorf("%v stays %d high for %d minutes from %d on, but Next from %d on: %d, %v", x, need, long, at, from, first, e)
						}
					}
				}
			}
		}
	}
	if found < 1000 || none < 1000 {
		t.Errorf("a time is found %d times, and none %d times", found, none)
	}
}

// P6.6: what two tables have in common is within both, and has all their windows.
func TestCommonTables(t *testing.T) {
	narrower, held := 0, 0
	eachPair(func(a, b api.Tide) {
		common, e := tide.Meet(a, b)
		if e == api.ErrLie {
			return
		}
		if e != api.OK || !tide.Valid(common) {
			t.Fatalf("Meet of %v and %v: %v, %v", a, b, common, e)
		}
		eachPart(a, func(from, until int) {
			s := heightOf(t, common, from, until)
			if !within(s, heightOf(t, a, from, until)) || !within(s, heightOf(t, b, from, until)) {
				t.Errorf("Meet of %v and %v from %d to %d: %v", a, b, from, until, s)
			}
			if s != heightOf(t, a, from, until) {
				narrower++
			}
		})
		for _, need := range needs(a, 6) {
			windows := windowsOf(t, common, need)
			for _, w := range append(windowsOf(t, a, need), windowsOf(t, b, need)...) {
				held++
				if !inOne(w, windows) {
					t.Errorf("Meet of %v and %v has not the window %v for %d", a, b, w, need)
				}
			}
		}
	})
	if narrower < 1000 || held < 1000 {
		t.Errorf("%d heights are narrower, and %d windows are held", narrower, held)
	}
}

// P6.6: what joins two tables has both, and each of its windows is a part of a window of both.
func TestJoinedTables(t *testing.T) {
	wider, held := 0, 0
	eachPair(func(a, b api.Tide) {
		all, e := tide.Join(a, b)
		if e != api.OK || !tide.Valid(all) {
			t.Fatalf("Join of %v and %v: %v, %v", a, b, all, e)
		}
		eachPart(a, func(from, until int) {
			s := heightOf(t, all, from, until)
			if !within(heightOf(t, a, from, until), s) || !within(heightOf(t, b, from, until), s) {
				t.Errorf("Join of %v and %v from %d to %d: %v", a, b, from, until, s)
			}
			if s != heightOf(t, a, from, until) {
				wider++
			}
		})
		for _, need := range needs(b, 6) {
			for _, w := range windowsOf(t, all, need) {
				held++
				if !inOne(w, windowsOf(t, a, need)) || !inOne(w, windowsOf(t, b, need)) {
					t.Errorf("Join of %v and %v has the window %v for %d", a, b, w, need)
				}
			}
		}
	})
	if wider < 1000 || held < 1000 {
		t.Errorf("%d heights are wider, and %d windows are held", wider, held)
	}
}

// P6.7: the heights of a shifted table are shifted, and its windows are those for a need that is less by as much.
func TestShiftedTables(t *testing.T) {
	count := 0
	for _, x := range tables() {
		for _, by := range shifts(x) {
			there, e := tide.Shift(x, by)
			if e != api.OK {
				continue
			}
			count++
			if there.Start != x.Start || there.Step != x.Step || !tide.Valid(there) {
				t.Errorf("Shift of %v by %v: %v", x, by, there)
			}
			eachPart(x, func(from, until int) {
				s := heightOf(t, x, from, until)
				if got := heightOf(t, there, from, until); got != of(s.Lo+by.Lo, s.Hi+by.Hi) {
					t.Errorf("%v from %d to %d, shifted by %v: %v, but %v before", x, from, until, by, got, s)
				}
			})
			for _, need := range needs(there, 10) {
				if need-by.Lo < -api.MaxSpan || need-by.Lo > api.MaxSpan {
					continue
				}
				if got, want := windowsOf(t, there, need), windowsOf(t, x, need-by.Lo); !slices.Equal(got, want) {
					t.Errorf("windows of %v, shifted by %v, for %d: %v, and not %v", x, by, need, got, want)
				}
			}
		}
	}
	if count < 300 {
		t.Errorf("only %d shifts are possible", count)
	}
}

// P6.8: with a greater need there are no times in a window that were not, and no time comes sooner.
func TestGreaterNeeds(t *testing.T) {
	fewer := 0
	for _, x := range tables() {
		list := needs(x, 12)
		for i, need := range list {
			windows := windowsOf(t, x, need)
			for _, greater := range list[i:] {
				for _, w := range windowsOf(t, x, greater) {
					if !inOne(w, windows) {
						t.Errorf("%v is %d high in %v, but %d high only in %v", x, greater, w, need, windows)
					}
				}
				if !slices.Equal(windows, windowsOf(t, x, greater)) {
					fewer++
				}
				first, e := tide.Next(x, need, x.Start, 1)
				later, e2 := tide.Next(x, greater, x.Start, 1)
				if e2 == api.OK && (e != api.OK || later < first) {
					t.Errorf("%v is %d high from %d on, but %d high only from %d on (%v)", x, greater, later, need, first, e)
				}
			}
		}
	}
	if fewer < 1000 {
		t.Errorf("the windows differ only %d times", fewer)
	}
}
