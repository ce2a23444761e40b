package tide_test

import (
	"slices"
	"testing"

	"seamark/api"
	"seamark/internal/expect"
	"seamark/internal/sample"
	"seamark/tide"
)

// twoTables are the functions of two tables.
var twoTables = []func(a, b api.Tide) (api.Tide, api.Errno){tide.Meet, tide.Join}

// P6.1: the examples of the chapter.
func TestExamples(t *testing.T) {
	for i, x := range []struct {
		from, until int
		want        api.Span
	}{
		{100, 100, of(5, 7)}, {101, 101, of(5, 12)}, {100, 120, of(5, 12)},
	} {
		if got := expect.OK[api.Span](t)(tide.Height(example(), x.from, x.until)); got != x.want {
			t.Errorf("Height %d: %v", i, got)
		}
	}
	for need, want := range map[int]api.Span{8: of(110, 120), 9: of(110, 110), 6: of(110, 120)} {
		if got := said(tide.Windows(example(), need)); got != said([]api.Span{want}, api.OK) {
			t.Errorf("Windows for %d: %v", need, got)
		}
	}
	if got := expect.Result(tide.Next(example(), 8, 100, 10)); got != expect.Result(110, api.OK) {
		t.Errorf("Next for 10 minutes: %v", got)
	}
	if got := expect.Result(tide.Next(example(), 8, 100, 11)); got != expect.Fails[int](api.ErrNone) {
		t.Errorf("Next for 11 minutes: %v", got)
	}
	other := tableOf(100, 10, of(6, 9), of(12, 13), of(0, 8))
	if got := said(tide.Meet(example(), other)); got != made(api.OK, 100, 10, of(6, 7), of(12, 12), of(8, 8)) {
		t.Errorf("Meet: %v", got)
	}
	if got := said(tide.Join(example(), other)); got != made(api.OK, 100, 10, of(5, 9), of(9, 13), of(0, 8)) {
		t.Errorf("Join: %v", got)
	}
	if got := said(tide.Shift(example(), of(-1, 1))); got != made(api.OK, 100, 10, of(4, 8), of(8, 13), of(7, 9)) {
		t.Errorf("Shift: %v", got)
	}
}

// P6.1, F1: tables are valid up to all limits, and not beyond them.
func TestValid(t *testing.T) {
	for _, x := range tables() {
		if !tide.Valid(x) {
			t.Errorf("%v is not valid", x)
		}
	}
	for _, x := range notTables() {
		if tide.Valid(x) {
			t.Errorf("%v is valid", x)
		}
	}
}

// P6.1, F1: whether a table is valid is decided by its first time, its step and the number of its rows together.
func TestValidTimes(t *testing.T) {
	good, bad := 0, 0
	for _, rows := range []int{0, 1, 2, 3, 100, 199, 200, 201, 500} {
		for _, step := range []int{-1000, -1, 0, 1, 2, 999, 1000, 1001, api.MaxTime, api.MaxTime + 1} {
			end := api.MaxTime - (rows-1)*step
			for _, start := range []int{-1, 0, 1, end - 1, end, end + 1, api.MaxTime - 1, api.MaxTime, api.MaxTime + 1} {
				want := isTable(start, step, rows)
				if got := tide.Valid(tableOf(start, step, make([]api.Span, rows)...)); got != want {
					t.Errorf("a table of %d rows from %d on, with the step %d, is valid: %v", rows, start, step, got)
				}
				if want {
					good++
				} else {
					bad++
				}
			}
		}
	}
	if good < 50 || bad < 50 {
		t.Errorf("%d tables are valid, %d are not", good, bad)
	}
}

// P6.1: a table that is not valid is refused in every position, ahead of all other errors.
func TestErrArgOfTables(t *testing.T) {
	for _, bad := range notTables() {
		for _, x := range []int{100, 0, api.MaxTime} {
			if got := expect.Result(tide.Height(bad, x, x)); got != expect.Fails[api.Span](api.ErrArg) {
				t.Errorf("Height of %v: %v", bad, got)
			}
			if got := expect.Result(tide.Next(bad, 0, x, 0)); got != expect.Fails[int](api.ErrArg) {
				t.Errorf("Next of %v: %v", bad, got)
			}
		}
		if got := said(tide.Windows(bad, 0)); got != said([]api.Span{}, api.ErrArg) {
			t.Errorf("Windows of %v: %v", bad, got)
		}
		for _, by := range []api.Span{of(0, 0), of(-api.MaxSpan, api.MaxSpan)} {
			if got := said(tide.Shift(bad, by)); got != refused(api.ErrArg) {
				t.Errorf("Shift of %v: %v", bad, got)
			}
		}
		for _, other := range []api.Tide{example(), tableOf(bad.Start, bad.Step, of(depth, depth)), bad} {
			for i, combine := range twoTables {
				if said(combine(bad, other)) != refused(api.ErrArg) || said(combine(other, bad)) != refused(api.ErrArg) {
					t.Errorf("function %d takes %v with %v", i, bad, other)
				}
			}
		}
	}
}

// P6.1: times, needs and shifts that are not valid are refused, ahead of ErrNone and ErrRange.
func TestErrArgOfNumbers(t *testing.T) {
	list := []api.Tide{example(), tableOf(0, 1, of(-depth, depth)), tableOf(api.MaxTime, 1, of(0, 0))}
	for _, x := range list {
		for _, n := range append(sample.Beyond(api.MaxTime), -1, -100) {
			for _, good := range []int{0, 100, api.MaxTime} {
				if expect.Result(tide.Height(x, n, good)) != expect.Fails[api.Span](api.ErrArg) || expect.Result(tide.Height(x, good, n)) != expect.Fails[api.Span](api.ErrArg) {
					t.Errorf("Height takes %d with %d", n, good)
				}
				if expect.Result(tide.Next(x, 0, n, good)) != expect.Fails[int](api.ErrArg) || expect.Result(tide.Next(x, 0, good, n)) != expect.Fails[int](api.ErrArg) {
					t.Errorf("Next takes %d with %d", n, good)
				}
			}
			if expect.Result(tide.Height(x, n, n)) != expect.Fails[api.Span](api.ErrArg) || expect.Result(tide.Next(x, 0, n, n)) != expect.Fails[int](api.ErrArg) {
				t.Errorf("Height or Next takes %d twice", n)
			}
		}
		for _, n := range sample.Beyond(api.MaxSpan) {
			if got := said(tide.Windows(x, n)); got != said([]api.Span{}, api.ErrArg) {
				t.Errorf("Windows for %d: %v", n, got)
			}
			for _, from := range []int{0, api.MaxTime} {
				if got := expect.Result(tide.Next(x, n, from, 0)); got != expect.Fails[int](api.ErrArg) {
					t.Errorf("Next for %d: %v", n, got)
				}
			}
			for _, by := range []api.Span{of(n, 0), of(0, n), of(n, n)} {
				if got := said(tide.Shift(x, by)); got != refused(api.ErrArg) {
					t.Errorf("Shift by %v: %v", by, got)
				}
			}
		}
		for _, by := range []api.Span{of(1, 0), of(api.MaxSpan, -api.MaxSpan), of(0, -1)} {
			if got := said(tide.Shift(x, by)); got != refused(api.ErrArg) {
				t.Errorf("Shift by %v: %v", by, got)
			}
		}
	}
}

// P6.1, F2: times in the wrong order are not valid, whether the table has them or not.
func TestHeightOfTimesInTheWrongOrder(t *testing.T) {
	for _, x := range [][2]int{{101, 100}, {120, 100}, {120, 119}, {100, 99}, {1, 0}, {121, 110}, {api.MaxTime, 0}} {
		if got := expect.Result(tide.Height(example(), x[0], x[1])); got != expect.Fails[api.Span](api.ErrArg) {
			t.Errorf("Height from %d to %d: %v", x[0], x[1], got)
		}
	}
}

// P6.1, F2: the heights are those of the oracle; times that are not of the table have none.
func TestHeight(t *testing.T) {
	known, unknown := 0, 0
	for _, x := range tables() {
		w := waterOf(x)
		list := times(x, 24)
		for _, n := range []int{0, x.Start - 1, last(x) + 1, api.MaxTime} {
			if n >= 0 && n <= api.MaxTime {
				list = append(list, n)
			}
		}
		slices.Sort(list)
		for i, from := range list {
			for _, until := range list[i:] {
				want := expect.Result(w.during(from, until))
				if got := expect.Result(tide.Height(x, from, until)); got != want {
					t.Errorf("Height of %v from %d to %d: %v, and not %v", x, from, until, got, want)
				}
				if want.Errno == api.OK {
					known++
				} else {
					unknown++
				}
			}
		}
	}
	if known < 5000 || unknown < 1000 {
		t.Errorf("%d heights are known, %d are not", known, unknown)
	}
}

// P6.1, F3: the windows are those of the oracle.
func TestWindows(t *testing.T) {
	none, one, more := 0, 0, 0
	for _, x := range tables() {
		w := waterOf(x)
		for _, need := range needs(x, 30) {
			want := w.windows(need)
			if got := said(tide.Windows(x, need)); got != said(want, api.OK) {
				t.Errorf("Windows of %v for %d: %v, and not %v", x, need, got, want)
			}
			switch len(want) {
			case 0:
				none++
			case 1:
				one++
			default:
				more++
			}
		}
	}
	if none < 100 || one < 100 || more < 100 {
		t.Errorf("there is no window %d times, one %d times, and more than one %d times", none, one, more)
	}
}

// P6.1, F3: windows of neighbouring rows are one, also with the step 1; a need may be at its limits.
func TestWindowsAtTheLimits(t *testing.T) {
	rows := []api.Span{of(3, 9), of(3, 4), of(2, 9), of(3, 3), of(4, 4), of(-5, 9), of(-6, 9), of(3, 3)}
	for i, x := range []struct {
		start, step, need int
		want              []api.Span
	}{
		{0, 1, 3, []api.Span{of(0, 1), of(3, 4), of(7, 7)}},
		{0, 2, 3, []api.Span{of(0, 2), of(6, 8), of(14, 14)}},
		{500, 1000, 3, []api.Span{of(500, 1500), of(3500, 4500), of(7500, 7500)}},
		{0, 2, 4, []api.Span{of(8, 8)}},
		{0, 2, 5, nil},
		{0, 2, 2, []api.Span{of(0, 8), of(14, 14)}},
		{0, 2, -5, []api.Span{of(0, 10), of(14, 14)}},
		{0, 2, -6, []api.Span{of(0, 14)}},
		{api.MaxTime - 7, 1, 3, []api.Span{of(api.MaxTime-7, api.MaxTime-6), of(api.MaxTime-4, api.MaxTime-3), of(api.MaxTime, api.MaxTime)}},
		{0, 1, -api.MaxSpan, []api.Span{of(0, 7)}},
		{0, 1, api.MaxSpan, nil},
	} {
		if got := said(tide.Windows(tableOf(x.start, x.step, rows...), x.need)); got != said(x.want, api.OK) {
			t.Errorf("limit %d: %v", i, got)
		}
	}
}

// P6.1, F4: the next time is that of the oracle.
func TestNext(t *testing.T) {
	found, none := 0, 0
	for _, x := range tables() {
		w := waterOf(x)
		whole := last(x) - x.Start
		for _, need := range needs(x, 8) {
			for _, from := range append(times(x, 8), 0, api.MaxTime) {
				for _, long := range []int{0, 1, x.Step - 1, x.Step, x.Step + 1, 2*x.Step + 1, whole, whole + 1, api.MaxTime} {
					want := expect.Result(w.next(need, from, long))
					if long > whole {
						// spares the oracle the way
						want = expect.Fails[int](api.ErrNone)
					}
					if got := expect.Result(tide.Next(x, need, from, long)); got != want {
						t.Errorf("Next of %v for %d from %d, for %d minutes: %v, and not %v", x, need, from, long, got, want)
					}
					if want.Errno == api.OK {
						found++
					} else {
						none++
					}
				}
			}
		}
	}
	if found < 5000 || none < 5000 {
		t.Errorf("a time is found %d times, and none %d times", found, none)
	}
}

// P6.1, F4: the time need not be one of the table when it is asked for, and is the last one of a window at most.
func TestNextAtTheLimits(t *testing.T) {
	rows := []api.Span{of(3, 9), of(3, 4), of(2, 9), of(3, 3), of(4, 4), of(6, 9)}
	for i, x := range []struct {
		need, from, long int
		want             expect.Pair[int]
	}{
		{3, 0, 0, expect.Result(100, api.OK)},
		{3, 99, 10, expect.Result(100, api.OK)},
		{3, 0, 11, expect.Result(130, api.OK)},
		{3, 100, 10, expect.Result(100, api.OK)},
		{3, 101, 9, expect.Result(101, api.OK)},
		{3, 101, 10, expect.Result(130, api.OK)},
		{3, 110, 0, expect.Result(110, api.OK)},
		{3, 111, 0, expect.Result(130, api.OK)},
		{3, 130, 20, expect.Result(130, api.OK)},
		{3, 0, 21, expect.Fails[int](api.ErrNone)},
		{3, 131, 20, expect.Fails[int](api.ErrNone)},
		{3, 150, 0, expect.Result(150, api.OK)},
		{3, 151, 0, expect.Fails[int](api.ErrNone)},
		{7, 0, 0, expect.Fails[int](api.ErrNone)},
		{-api.MaxSpan, 0, 50, expect.Result(100, api.OK)},
		{-api.MaxSpan, 0, 51, expect.Fails[int](api.ErrNone)},
		{api.MaxSpan, 100, 0, expect.Fails[int](api.ErrNone)},
		{2, api.MaxTime, api.MaxTime, expect.Fails[int](api.ErrNone)},
	} {
		if got := expect.Result(tide.Next(tableOf(100, 10, rows...), x.need, x.from, x.long)); got != x.want {
			t.Errorf("limit %d: %v", i, got)
		}
	}
	end := tableOf(api.MaxTime, 1, of(0, 0))
	if got := expect.Result(tide.Next(end, 0, api.MaxTime, 0)); got != expect.Result(api.MaxTime, api.OK) {
		t.Errorf("Next at the last time: %v", got)
	}
}

// P6.1, F5 and F6: two tables are met and joined as by the oracle.
func TestMeetAndJoin(t *testing.T) {
	good, lies := 0, 0
	eachPair(func(a, b api.Tide) {
		meet, join := both(a, b)
		if got := said(tide.Meet(a, b)); got != meet {
			t.Errorf("Meet of %v and %v: %v", a, b, got)
		}
		if got := said(tide.Join(a, b)); got != join {
			t.Errorf("Join of %v and %v: %v", a, b, got)
		}
		if meet == refused(api.ErrLie) {
			lies++
		} else {
			good++
		}
	})
	if good < 500 || lies < 100 {
		t.Errorf("%d pairs have something in common, %d have not", good, lies)
	}
}

// P6.1, F5: two heights that only just have nothing in common are a lie, in whichever row they are.
func TestMeetOfLies(t *testing.T) {
	for k := range 3 {
		for _, x := range []struct {
			s    api.Span
			want api.Errno
		}{
			{of(9, 9), api.ErrLie}, {of(4, 6), api.ErrLie}, {of(-depth, 6), api.ErrLie}, {of(9, depth), api.ErrLie},
			{of(8, 8), api.OK}, {of(7, 7), api.OK}, {of(8, depth), api.OK}, {of(-depth, 7), api.OK},
		} {
			a, b := tableOf(100, 10, of(7, 8), of(7, 8), of(7, 8)), tableOf(100, 10, of(7, 8), of(7, 8), of(7, 8))
			b.Heights[k] = x.s
			for _, pair := range [][2]api.Tide{{a, b}, {b, a}} {
				got, e := tide.Meet(pair[0], pair[1])
				if e != x.want || e != api.OK && said(got, e) != refused(x.want) {
					t.Errorf("Meet with %v in the row %d: %v, %v", x.s, k, got, e)
				}
				if _, e := tide.Join(pair[0], pair[1]); e != api.OK {
					t.Errorf("Join with %v in the row %d: %v", x.s, k, e)
				}
			}
		}
	}
}

// P6.1, F5 and F6: tables of other times are not combined, ahead of ErrLie.
func TestOtherTimes(t *testing.T) {
	for _, heights := range [][]api.Span{example().Heights, {of(50, 50), of(9, 12), of(50, 50)}} {
		for i, other := range []api.Tide{
			tableOf(101, 10, heights...), tableOf(99, 10, heights...), tableOf(110, 10, heights...), tableOf(0, 10, heights...),
			tableOf(100, 11, heights...), tableOf(100, 9, heights...), tableOf(100, 20, heights...), tableOf(90, 20, heights...),
			tableOf(100, 10, heights[:2]...), tableOf(100, 10, heights[:1]...), tableOf(100, 20, heights[:2]...),
			tableOf(100, 10, slices.Concat(heights, heights)...), tableOf(100, 5, slices.Concat(heights, heights[:2])...),
		} {
			for k, combine := range twoTables {
				if said(combine(example(), other)) != refused(api.ErrState) || said(combine(other, example())) != refused(api.ErrState) {
					t.Errorf("function %d combines the example with other times %d", k, i)
				}
			}
		}
	}
}

// P6.1, F7: tables are shifted as by the oracle.
func TestShift(t *testing.T) {
	good, far := 0, 0
	for _, x := range tables() {
		for _, s := range shifts(x) {
			for _, by := range []api.Span{s, of(s.Lo-1, s.Hi), of(s.Lo, s.Hi+1)} {
				want := shifted(x, by)
				if got := said(tide.Shift(x, by)); got != want {
					t.Errorf("Shift of %v by %v: %v", x, by, got)
				}
				if want == refused(api.ErrRange) {
					far++
				} else {
					good++
				}
			}
		}
	}
	if good < 500 || far < 500 {
		t.Errorf("%d shifts are possible, %d are not", good, far)
	}
}

// P6.1, F7: a table reaches the limits, and is out of its range one beyond them, in whichever row that is.
func TestShiftAtTheLimits(t *testing.T) {
	for k := range 3 {
		x := tableOf(100, 10, of(-1, 1), of(0, 0), of(1, 1))
		x.Heights[k] = of(-2, 3)
		for _, c := range []struct {
			by   api.Span
			want api.Errno
		}{
			{of(2-depth, depth-3), api.OK}, {of(1-depth, depth-3), api.ErrRange}, {of(2-depth, depth-2), api.ErrRange},
			{of(depth-3, depth-3), api.OK}, {of(depth-2, depth-2), api.ErrRange}, {of(2-depth, 2-depth), api.OK}, {of(1-depth, 1-depth), api.ErrRange},
			{of(0, api.MaxSpan), api.ErrRange}, {of(-api.MaxSpan, 0), api.ErrRange}, {of(-api.MaxSpan, api.MaxSpan), api.ErrRange},
			{of(api.MaxSpan, api.MaxSpan), api.ErrRange}, {of(-api.MaxSpan, -api.MaxSpan), api.ErrRange},
		} {
			got, e := tide.Shift(x, c.by)
			if e != c.want || e != api.OK && said(got, e) != refused(c.want) {
				t.Errorf("Shift of %v by %v: %v, %v", x, c.by, got, e)
			}
		}
	}
}

// P6.1: no function changes its arguments, and no table that is made shares memory with them.
func TestArgumentsStay(t *testing.T) {
	eachPair(func(a, b api.Tide) {
		before := said([]api.Tide{a, b}, api.OK)
		tide.Valid(a)
		tide.Height(a, a.Start, last(a))
		tide.Windows(a, 1)
		tide.Next(a, 1, 0, 1)
		meet, _ := tide.Meet(a, b)
		join, _ := tide.Join(a, b)
		same, _ := tide.Join(a, a)
		shift, _ := tide.Shift(a, of(0, 0))
		for _, made := range []api.Tide{meet, join, same, shift} {
			for k := range made.Heights {
				made.Heights[k] = of(-7, 77)
			}
		}
		if said([]api.Tide{a, b}, api.OK) != before {
			t.Errorf("%s was changed", before)
		}
	})
}
