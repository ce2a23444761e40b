package tide

import (
	"iter"

	"seamark/api"
	"seamark/span"
)

// table is a table of heights. Valid asks times and allInRange; all other methods are those of a valid table.
type table api.Tide

// time returns the time of the row k.
func (t table) time(k int) int {
	return t.Start + k*t.Step
}

// times returns the times from that of the first row to that of the last one.
func (t table) times() api.Span {
	return api.Span{Lo: t.Start, Hi: t.time(len(t.Heights) - 1)}
}

// row returns the row k.
func (t table) row(k int) row {
	return row(t.Heights[k])
}

// allInRange reports whether all rows have heights.
func (t table) allInRange() bool {
	for k := range t.Heights {
		if !t.row(k).inRange() {
			return false
		}
	}
	return true
}

// stretches ranges over the times of the table, in order, with what is known of the height at each of them: the times of rows, and those between two rows.
func (t table) stretches() iter.Seq2[api.Span, row] {
	return func(yield func(times api.Span, heights row) bool) {
		for k := range t.Heights {
			at := t.time(k)
			// With the step 1 there is no time between two rows.
			if k > 0 && t.Step > 1 {
				heights, _ := t.row(k - 1).join(t.row(k))
				if !yield(api.Span{Lo: t.time(k-1) + 1, Hi: at - 1}, heights) {
					return
				}
			}
			if !yield(api.Span{Lo: at, Hi: at}, t.row(k)) {
				return
			}
		}
	}
}

// during returns the least row that has the heights at all of the times asked, which are times of the table.
func (t table) during(asked api.Span) row {
	// The first one of these times is that of this row, or between it and the next one: all heights of the row are possible then.
	all := t.row((asked.Lo - t.Start) / t.Step)
	for times, heights := range t.stretches() {
		if _, e := span.Meet(times, asked); e == api.OK {
			all, _ = all.join(heights)
		}
	}
	return all
}

// windows returns the longest spans of times at which the water surely is as high as need.
func (t table) windows(need int) []api.Span {
	var out []api.Span
	for times, heights := range t.stretches() {
		if heights.Lo < need {
			continue
		}
		if last := len(out) - 1; last >= 0 && out[last].Hi+1 == times.Lo {
			out[last].Hi = times.Hi
		} else {
			out = append(out, times)
		}
	}
	return out
}
