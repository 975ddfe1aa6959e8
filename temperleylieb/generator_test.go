package temperleylieb

import (
	"math"
	"slices"
	"testing"

	"timbrel/api"
)

// P12.2: Identity.
func TestIdentity(t *testing.T) {
	for _, c := range []struct {
		n    int
		want []int
	}{
		{1, []int{1, 0}},
		{2, []int{2, 3, 0, 1}},
		{3, []int{3, 4, 5, 0, 1, 2}},
		{6, []int{6, 7, 8, 9, 10, 11, 0, 1, 2, 3, 4, 5}},
	} {
		if d, e := Identity(c.n); e != api.OK || !slices.Equal(d, c.want) {
			t.Errorf("Identity(%d) = %v, %d, want %v", c.n, d, e, c.want)
		}
	}
}

// P12.2: Identity connects i with n + i.
func TestIdentityFollowsTheDefinition(t *testing.T) {
	for n := 1; n <= api.MaxStrands; n++ {
		d := identity(t, n)
		if e := Check(n, d); e != api.OK {
			t.Fatalf("Check(%d, %v) = %d", n, d, e)
		}
		for i := range n {
			if d[i] != n+i || d[n+i] != i {
				t.Errorf("Identity(%d) = %v", n, d)
			}
		}
	}
}

// P12.2: Generator.
func TestGenerator(t *testing.T) {
	for _, c := range []struct {
		n, i int
		want []int
	}{
		{2, 1, []int{1, 0, 3, 2}},
		{3, 1, []int{1, 0, 5, 4, 3, 2}},
		{3, 2, []int{3, 2, 1, 0, 5, 4}},
		{4, 2, []int{4, 2, 1, 7, 0, 6, 5, 3}},
		{6, 1, []int{1, 0, 8, 9, 10, 11, 7, 6, 2, 3, 4, 5}},
		{6, 5, []int{6, 7, 8, 9, 5, 4, 0, 1, 2, 3, 11, 10}},
	} {
		if d, e := Generator(c.n, c.i); e != api.OK || !slices.Equal(d, c.want) {
			t.Errorf("Generator(%d, %d) = %v, %d, want %v", c.n, c.i, d, e, c.want)
		}
	}
}

// P12.2: Generator differs from Identity at four points.
func TestGeneratorFollowsTheDefinition(t *testing.T) {
	for n := 1; n <= api.MaxStrands; n++ {
		for i := 1; i < n; i++ {
			d := generator(t, n, i)
			if e := Check(n, d); e != api.OK {
				t.Errorf("Check(%d, %v) = %d", n, d, e)
			}
			want := identity(t, n)
			want[i-1], want[i] = i, i-1
			want[n+i-1], want[n+i] = n+i, n+i-1
			if !slices.Equal(d, want) {
				t.Errorf("Generator(%d, %d) = %v, want %v", n, i, d, want)
			}
		}
	}
}

// P12.2: the number of points is out of range.
func TestErrorsOfIdentity(t *testing.T) {
	for _, n := range []int{math.MinInt, -1, 0, 7, 1<<32 + 1, math.MaxInt} {
		if d, e := Identity(n); e != api.ErrArgument || len(d) > 0 {
			t.Errorf("Identity(%d) = %v, %d", n, d, e)
		}
		for i := -1; i < 8; i++ {
			if d, e := Generator(n, i); e != api.ErrArgument || len(d) > 0 {
				t.Errorf("Generator(%d, %d) = %v, %d", n, i, d, e)
			}
		}
	}
}

// P12.2: the generator is out of range. On one strand there is none.
func TestErrorsOfGenerator(t *testing.T) {
	for n := 1; n <= api.MaxStrands; n++ {
		for _, i := range []int{math.MinInt, -n, -1, 0, n, n + 1, 1<<32 + 1, math.MaxInt} {
			if d, e := Generator(n, i); e != api.ErrArgument || len(d) > 0 {
				t.Errorf("Generator(%d, %d) = %v, %d", n, i, d, e)
			}
		}
	}
}
