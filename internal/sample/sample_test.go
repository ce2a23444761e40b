package sample_test

import (
	"math/rand/v2"
	"slices"
	"testing"

	"seamark/internal/sample"
)

func TestUpTo(t *testing.T) {
	r := rand.New(rand.NewPCG(1, 2))
	for _, n := range []int{1, 3, 1000000} {
		seen := map[int]bool{}
		for range 1000 {
			k := sample.UpTo(r, n)
			if k < -n || k > n {
				t.Errorf("%d is not up to %d", k, n)
			}
			seen[k] = true
		}
		if !seen[-n] || !seen[0] || !seen[n] {
			t.Errorf("a limit or 0 is missing up to %d", n)
		}
	}
}

func TestBeyond(t *testing.T) {
	for _, limit := range []int{0, 12, 1000000, 1000000000000} {
		list := sample.Beyond(limit)
		for _, n := range list {
			if -limit <= n && n <= limit {
				t.Errorf("%d is not beyond %d", n, limit)
			}
		}
		if !slices.Contains(list, limit+1) || !slices.Contains(list, -limit-1) {
			t.Errorf("the numbers next to %d are missing", limit)
		}
	}
}

func TestEvery(t *testing.T) {
	list := []int{5, 6, 7, 8, 9}
	for n, want := range map[int][]int{1: list, 2: {5, 7, 9}, 4: {5, 9}, 5: {5}} {
		if got := sample.Every(list, n); !slices.Equal(got, want) {
			t.Errorf("every %d: %v", n, got)
		}
	}
}
