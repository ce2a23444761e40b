package tide

import (
	"seamark/api"
	"seamark/span"
)

// row is what is known of the height of the water.
type row api.Span

// inRange reports whether r is a valid span with ends that heights can have.
func (r row) inRange() bool {
	return hasAll(api.Span{Lo: -api.MaxDepth, Hi: api.MaxDepth}, api.Span(r))
}

// meet returns what both have in common, or ErrLie if that is nothing.
func (r row) meet(other row) (row, api.Errno) {
	both, e := span.Meet(api.Span(r), api.Span(other))
	if e != api.OK {
		return row{}, api.ErrLie
	}
	return row(both), api.OK
}

// join returns the least row that has both.
func (r row) join(other row) (row, api.Errno) {
	joined, e := span.Join(api.Span(r), api.Span(other))
	return row(joined), e
}

// plus returns r with by added, or ErrRange if that is not a row of a valid table.
func (r row) plus(by api.Span) (row, api.Errno) {
	sum, e := span.Add(api.Span(r), by)
	if e != api.OK || !row(sum).inRange() {
		return row{}, api.ErrRange
	}
	return row(sum), api.OK
}

// combine returns the table whose rows are made of those of t, each with its partner, or the first error.
func combine[P any](t table, with func(row, P) (row, api.Errno), partner func(k int) P) (api.Tide, api.Errno) {
	heights := make([]api.Span, len(t.Heights))
	for k := range heights {
		r, e := with(t.row(k), partner(k))
		if e != api.OK {
			return api.Tide{}, e
		}
		heights[k] = api.Span(r)
	}
	return api.Tide{Start: t.Start, Step: t.Step, Heights: heights}, api.OK
}

// hasAll reports whether s has all of part, which need not be valid.
func hasAll(s, part api.Span) bool {
	in, _ := span.Within(part, s)
	return in
}
