package temperleylieb

import (
	"testing"

	"timbrel/api"
)

// P12.4: Closure.
func TestClosure(t *testing.T) {
	for _, c := range []struct {
		n    int
		d    []int
		want int
	}{
		{1, []int{1, 0}, 1},
		{2, []int{1, 0, 3, 2}, 1},
		{2, []int{2, 3, 0, 1}, 2},
		{3, []int{3, 2, 1, 0, 5, 4}, 2},
		{3, []int{1, 0, 3, 2, 5, 4}, 1},
		{4, []int{1, 0, 3, 2, 5, 4, 7, 6}, 2},
		{4, []int{3, 2, 1, 0, 7, 6, 5, 4}, 2},
		{4, []int{1, 0, 3, 2, 7, 6, 5, 4}, 1},
		{6, []int{6, 7, 8, 9, 10, 11, 0, 1, 2, 3, 4, 5}, 6},
		{6, []int{5, 4, 3, 2, 1, 0, 7, 6, 9, 8, 11, 10}, 2},
		{6, []int{5, 2, 1, 4, 3, 0, 7, 6, 9, 8, 11, 10}, 1},
		{6, []int{5, 4, 3, 2, 1, 0, 11, 8, 7, 10, 9, 6}, 2},
	} {
		if k, e := Closure(c.n, c.d); e != api.OK || k != c.want {
			t.Errorf("Closure(%d, %v) = %d, %d, want %d", c.n, c.d, k, e, c.want)
		}
	}
}

// P12.4: the loops are the connected parts.
func TestClosureFollowsTheDefinition(t *testing.T) {
	for n := 1; n <= api.MaxStrands; n++ {
		for _, d := range planar(n) {
			if k, want := closure(t, n, d), plainClosure(n, d); k != want {
				t.Errorf("Closure(%d, %v) = %d, want %d", n, d, k, want)
			}
		}
	}
}

// P12.4: only the identity has n loops, and each generator has one less.
func TestClosureOfGenerators(t *testing.T) {
	for n := 1; n <= api.MaxStrands; n++ {
		if k := closure(t, n, identity(t, n)); k != n {
			t.Errorf("the identity on %d strands has %d loops", n, k)
		}
		for i := 1; i < n; i++ {
			if k := closure(t, n, generator(t, n, i)); k != n-1 {
				t.Errorf("generator %d on %d strands has %d loops", i, n, k)
			}
		}
	}
}

// P12.3, P12.4: all loops of a closed product stay if the lower matching is moved to the top.
func TestClosureOfProducts(t *testing.T) {
	for _, c := range samplePairs() {
		d, k := product(t, c.n, c.a, c.b)
		p, l := product(t, c.n, c.b, c.a)
		if got, want := k+closure(t, c.n, d), l+closure(t, c.n, p); got != want {
			t.Errorf("%d: %v, %v: %d loops, but in the other order %d", c.n, c.a, c.b, got, want)
		}
	}
}

// P12.4: the error of Check.
func TestErrorsOfClosure(t *testing.T) {
	for _, c := range checkCases {
		if k, e := Closure(c.n, c.d); e != c.want || e != api.OK && k != 0 {
			t.Errorf("Closure(%d, %v) = %d, %d, want error %d", c.n, c.d, k, e, c.want)
		}
	}
}
