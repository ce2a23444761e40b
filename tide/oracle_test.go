package tide_test

import "seamark/api"

// The oracle goes through the times minute by minute.

// joined returns the least span that has both.
func joined(s, t api.Span) api.Span { return of(min(s.Lo, t.Lo), max(s.Hi, t.Hi)) }

// within reports whether t has all of s.
func within(s, t api.Span) bool { return s.Lo >= t.Lo && s.Hi <= t.Hi }

// has reports whether x is in s.
func has(s api.Span, x int) bool { return within(of(x, x), s) }

// water is between which heights the water is: minute by minute, from start on.
type water struct {
	start   int
	minutes []api.Span
}

// waterOf returns what a table says.
func waterOf(t api.Tide) water {
	w := water{start: t.Start}
	for k, s := range t.Heights {
		if k > 0 {
			for range t.Step - 1 {
				w.minutes = append(w.minutes, joined(s, t.Heights[k-1]))
			}
		}
		w.minutes = append(w.minutes, s)
	}
	return w
}

// at returns between which heights the water is at the time x, and whether this is known.
func (w water) at(x int) (api.Span, bool) {
	if k := x - w.start; k >= 0 && k < len(w.minutes) {
		return w.minutes[k], true
	}
	return api.Span{}, false
}

// during returns what Height has to return for times.
func (w water) during(from, until int) (api.Span, api.Errno) {
	all, known := w.at(from)
	_, knownToo := w.at(until)
	if !known || !knownToo {
		return api.Span{}, api.ErrNone
	}
	for x := from; x <= until; x++ {
		s, _ := w.at(x)
		all = joined(all, s)
	}
	return all, api.OK
}

// high reports whether the water surely is as high as need at the time x.
func (w water) high(x, need int) bool {
	s, known := w.at(x)
	return known && s.Lo >= need
}

// windows returns what Windows has to return.
func (w water) windows(need int) []api.Span {
	var out []api.Span
	for x := w.start; x < w.start+len(w.minutes); x++ {
		if !w.high(x, need) {
			continue
		}
		if !w.high(x-1, need) {
			out = append(out, of(x, x))
		}
		out[len(out)-1].Hi = x
	}
	return out
}

// next returns what Next has to return.
func (w water) next(need, from, long int) (int, api.Errno) {
	minutes := 0
	for x := max(from, w.start); x < w.start+len(w.minutes); x++ {
		minutes++
		if !w.high(x, need) {
			minutes = 0
		}
		if minutes == long+1 {
			return x - long, api.OK
		}
	}
	return 0, api.ErrNone
}

// isTable returns what Valid has to return for a table with good heights.
func isTable(start, step, rows int) bool {
	if start < 0 || step < 1 || step > 1000 || rows < 1 || rows > 200 {
		return false
	}
	return start+(rows-1)*step <= 10000000
}

// both returns what Meet and Join have to return, for two tables of the same times.
func both(a, b api.Tide) (meet, join string) {
	common, all := tableOf(a.Start, a.Step), tableOf(a.Start, a.Step)
	e := api.OK
	for k, s := range a.Heights {
		t := b.Heights[k]
		s, t = of(max(s.Lo, t.Lo), min(s.Hi, t.Hi)), joined(s, t)
		common.Heights, all.Heights = append(common.Heights, s), append(all.Heights, t)
		if s.Lo > s.Hi {
			e = api.ErrLie
		}
	}
	if e != api.OK {
		return refused(e), said(all, api.OK)
	}
	return said(common, api.OK), said(all, api.OK)
}

// shifted returns what Shift has to return.
func shifted(t api.Tide, by api.Span) string {
	out := tableOf(t.Start, t.Step)
	for _, s := range t.Heights {
		s = of(s.Lo+by.Lo, s.Hi+by.Hi)
		if s.Lo < -depth || s.Hi > depth {
			return refused(api.ErrRange)
		}
		out.Heights = append(out.Heights, s)
	}
	return said(out, api.OK)
}
