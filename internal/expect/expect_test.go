package expect_test

import (
	"testing"

	"seamark/api"
	"seamark/internal/expect"
)

// failures counts how often a test fails, and goes on.
type failures int

func (f *failures) Helper() {}

func (f *failures) Fatalf(string, ...any) { *f++ }

func TestOK(t *testing.T) {
	var count failures
	if v := expect.OK[int](&count)(7, api.OK); v != 7 || count != 0 {
		t.Errorf("OK: %d, with %d failures", v, count)
	}
	if expect.OK[int](&count)(7, api.ErrNone); count != 1 {
		t.Errorf("ErrNone: %d failures", count)
	}
}

func TestPairs(t *testing.T) {
	for i, x := range []struct{ got, want expect.Pair[int] }{
		{expect.Result(7, api.OK), expect.Pair[int]{Value: 7}},
		{expect.Result(7, api.ErrNone), expect.Pair[int]{Value: 7, Errno: api.ErrNone}},
		{expect.Fails[int](api.ErrNone), expect.Pair[int]{Errno: api.ErrNone}},
	} {
		if x.got != x.want {
			t.Errorf("pair %d: %v", i, x.got)
		}
	}
	if expect.Result(7, api.ErrNone) == expect.Fails[int](api.ErrNone) {
		t.Error("a value with an error is like none")
	}
}
