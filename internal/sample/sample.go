// Package sample has what the tests of all layers share: they ask about these numbers, and about some of many elements.
package sample

import "math"

// Chance is where numbers come from that differ, a *rand.Rand.
type Chance interface {
	IntN(n int) int
}

// UpTo returns a number from -n to n: often at the limits, near them, or 0.
func UpTo(r Chance, n int) int {
	if r.IntN(2) == 0 {
		return r.IntN(2*n+1) - n
	}
	return []int{-n, 1 - n, -n / 2, -1, 0, 1, n / 2, n - 1, n}[r.IntN(9)]
}

// Beyond returns numbers that are not from -limit to limit: next to them, farther away, and those whose lower 32 bits are in that range.
func Beyond(limit int) []int {
	return []int{limit + 1, -limit - 1, 2*limit + 1, limit + 1<<32, -limit - 1<<32, 1 << 62, -1 << 62, math.MinInt, math.MaxInt}
}

// Every returns every n-th element.
func Every[T any](list []T, n int) []T {
	var out []T
	for i := 0; i < len(list); i += n {
		out = append(out, list[i])
	}
	return out
}
