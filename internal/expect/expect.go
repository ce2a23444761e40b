// Package expect has what the tests of all layers share: they take what a call returns by it.
package expect

import "seamark/api"

// Test is the test that runs, a *testing.T.
type Test interface {
	Helper()
	Fatalf(format string, args ...any)
}

// OK returns a function that returns the value that a call returns, and fails the test if the call is not OK.
func OK[T any](t Test) func(T, api.Errno) T {
	return func(v T, e api.Errno) T {
		t.Helper()
		if e != api.OK {
			t.Fatalf("%v is not OK", e)
		}
		return v
	}
}

// Pair is what a call returns, as one value.
type Pair[T comparable] struct {
	Value T
	Errno api.Errno
}

// Result returns what a call returns.
func Result[T comparable](v T, e api.Errno) Pair[T] { return Pair[T]{v, e} }

// Fails returns what a call returns that has an error, and thus no value.
func Fails[T comparable](e api.Errno) Pair[T] { return Pair[T]{Errno: e} }
