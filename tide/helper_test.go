package tide_test

import (
	"fmt"
	"math/rand/v2"
	"slices"

	"seamark/api"
	"seamark/internal/sample"
)

const (
	depth   = api.MaxDepth
	maxStep = 1000 // the greatest step
)

func of(lo, hi int) api.Span { return api.Span{Lo: lo, Hi: hi} }

func tableOf(start, step int, heights ...api.Span) api.Tide {
	return api.Tide{Start: start, Step: step, Heights: heights}
}

// example is the table of the chapter's examples.
func example() api.Tide { return tableOf(100, 10, of(5, 7), of(9, 12), of(8, 8)) }

// last returns the time of the last row.
func last(t api.Tide) int { return t.Start + (len(t.Heights)-1)*t.Step }

// said is what a call returns, as a text. A nil list and an empty one are the same in it.
func said(v any, e api.Errno) string { return fmt.Sprint(v, e) }

// made is what a call returns that makes a table.
func made(e api.Errno, start, step int, heights ...api.Span) string {
	return said(tableOf(start, step, heights...), e)
}

// refused is what a call returns that makes no table.
func refused(e api.Errno) string { return said(api.Tide{}, e) }

// chance returns numbers that are the same in each run.
func chance() *rand.Rand { return rand.New(rand.NewPCG(6, 8)) }

// spanUpTo returns a span with ends from -n to n.
func spanUpTo(r *rand.Rand, n int) api.Span {
	a, b := sample.UpTo(r, n), sample.UpTo(r, n)
	return of(min(a, b), max(a, b))
}

// someTable returns a table of n rows with heights from -most to most.
func someTable(r *rand.Rand, start, step, n, most int) api.Tide {
	t := tableOf(start, step)
	for range n {
		t.Heights = append(t.Heights, spanUpTo(r, most))
	}
	return t
}

// smallTables have up to 9 rows, often with the same heights, and with all steps up to 4 and others.
func smallTables() []api.Tide {
	r := chance()
	out := []api.Tide{example(), tableOf(0, 1, of(0, 0)), tableOf(7, maxStep, of(-2, 3))}
	for n := 1; n <= 9; n++ {
		for _, step := range []int{1, 2, 3, 4, 11} {
			out = append(out, someTable(r, r.IntN(20), step, n, 2), someTable(r, api.MaxTime-(n-1)*step, step, n, 3), someTable(r, 0, step, n, depth))
		}
	}
	return out
}

// wideTables are at the limits.
func wideTables() []api.Tide {
	r := chance()
	most := api.MaxHeights
	return []api.Tide{
		tableOf(api.MaxTime, maxStep, of(-depth, depth)),
		tableOf(api.MaxTime-maxStep, maxStep, of(depth, depth), of(-depth, -depth)),
		someTable(r, 0, 1, most, 3), someTable(r, api.MaxTime-most+1, 1, most, depth),
		someTable(r, 12345, 17, most, 2),
		someTable(r, 0, maxStep, most, 3), someTable(r, api.MaxTime-(most-1)*maxStep, maxStep, most, depth),
	}
}

func tables() []api.Tide { return append(smallTables(), wideTables()...) }

// few returns about n of a sorted list of numbers, each once, with the first and the last one.
func few(list []int, n int) []int {
	list = slices.Compact(list)
	return slices.Compact(append(sample.Every(list, 1+len(list)/n), list[len(list)-1]))
}

// times returns times of the table: all of a short one, and of others those of some rows, beside these, and between them.
func times(t api.Tide, n int) []int {
	var out []int
	for k := range t.Heights {
		at := t.Start + k*t.Step
		out = append(out, at-1, at, at+1, at+2, at+t.Step/2, at+t.Step-2)
	}
	slices.Sort(out)
	return few(slices.DeleteFunc(out, func(x int) bool { return x < t.Start || x > last(t) }), n)
}

// eachPart calls f with the first and the last one of some times of the table.
func eachPart(t api.Tide, f func(from, until int)) {
	list := times(t, 8)
	for i, from := range list {
		for _, until := range list[i:] {
			f(from, until)
		}
	}
}

// needs returns numbers at which the windows of a table change, some beside them, and those at the limits.
func needs(t api.Tide, n int) []int {
	out := []int{-api.MaxSpan, -depth - 1, depth + 1, api.MaxSpan}
	for _, s := range t.Heights {
		out = append(out, s.Lo-1, s.Lo, s.Lo+1, s.Hi)
	}
	slices.Sort(out)
	return few(out, n)
}

// beside returns a table of the same times, whose heights often have something in common with those of t.
func beside(r *rand.Rand, t api.Tide) api.Tide {
	out := tableOf(t.Start, t.Step)
	apart := r.IntN(4) == 0
	for _, s := range t.Heights {
		if apart && r.IntN(3) == 0 {
			out.Heights = append(out.Heights, spanUpTo(r, depth))
			continue
		}
		in := s.Lo + r.IntN(s.Hi-s.Lo+1)
		out.Heights = append(out.Heights, of(max(in-r.IntN(3), -depth), min(in+r.IntN(3), depth)))
	}
	return out
}

// eachPair calls f with pairs of tables of the same times: of one with itself, and with others.
func eachPair(f func(a, b api.Tide)) {
	r := chance()
	for _, a := range tables() {
		f(a, a)
		for range 6 {
			b := beside(r, a)
			f(a, b)
			f(b, a)
		}
	}
}

// shifts returns spans by which the heights of a table can be shifted, also those after which they are at the limits.
func shifts(t api.Tide) []api.Span {
	least, most := depth, -depth
	for _, s := range t.Heights {
		least, most = min(least, s.Lo), max(most, s.Hi)
	}
	down, up := -depth-least, depth-most
	out := []api.Span{of(0, 0), of(down, down), of(up, up), of(down, up), of(down, 0), of(0, up), of(down/2, up/3)}
	if down <= -1 && up >= 1 {
		out = append(out, of(-1, 1), of(-1, -1), of(1, 1))
	}
	return out
}

// notHeights are no spans of heights.
func notHeights() []api.Span {
	out := []api.Span{of(1, 0), of(depth, -depth), of(0, -1)}
	for _, n := range sample.Beyond(depth) {
		out = append(out, of(n, 0), of(0, n), of(n, n))
	}
	return out
}

// notTables are no valid tables.
func notTables() []api.Tide {
	good := of(0, 0)
	long := make([]api.Span, api.MaxHeights)
	out := []api.Tide{
		{}, {Start: 100}, {Step: 1}, {Start: 100, Step: 10}, {Heights: long}, tableOf(0, 0, good), tableOf(-1, 1, good),
		tableOf(0, 1, append(long, good)...), tableOf(0, 1, make([]api.Span, 1000)...),
		tableOf(api.MaxTime, 1, good, good), tableOf(api.MaxTime-maxStep+1, maxStep, good, good),
		tableOf(api.MaxTime-len(long)+2, 1, long...), tableOf(api.MaxTime-(len(long)-1)*maxStep+1, maxStep, long...),
		// the time of the last row would be one, if it was taken by 64 bits
		tableOf(0, 1<<62, good, good, good, good, good), tableOf(5, -1<<63, good, good, good),
		tableOf(api.MaxTime, -1, good, good), tableOf(-1, 1, good, good), tableOf(api.MaxTime+1, -1, good, good),
	}
	for _, n := range sample.Beyond(api.MaxTime) {
		out = append(out, tableOf(n, 1, good), tableOf(n, 1, good, good, good))
	}
	for _, n := range append(sample.Beyond(maxStep), -1, -10, -maxStep) {
		out = append(out, tableOf(100, n, good), tableOf(100, n, good, good, good))
	}
	for _, s := range notHeights() {
		for k := range 3 {
			t := example()
			t.Heights[k] = s
			out = append(out, t)
		}
		out = append(out, tableOf(0, 1, s), tableOf(0, 1, append(long[1:], s)...))
	}
	return out
}
