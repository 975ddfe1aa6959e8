package temperleylieb

import (
	"math"
	"slices"
	"testing"

	"timbrel/api"
)

// elements returns all matchings for a number of points that has no error.
func elements(t *testing.T, n int) [][]int {
	t.Helper()
	l, e := Elements(n)
	if e != api.OK {
		t.Fatalf("Elements(%d) = %v, %d", n, l, e)
	}
	return l
}

// P12.5: Elements.
func TestElements(t *testing.T) {
	for _, c := range []struct {
		n    int
		want [][]int
	}{
		{1, [][]int{{1, 0}}},
		{2, [][]int{{1, 0, 3, 2}, {2, 3, 0, 1}}},
		{3, [][]int{{1, 0, 3, 2, 5, 4}, {1, 0, 5, 4, 3, 2}, {3, 2, 1, 0, 5, 4}, {3, 4, 5, 0, 1, 2}, {5, 2, 1, 4, 3, 0}}},
	} {
		if l := elements(t, c.n); !slices.EqualFunc(l, c.want, slices.Equal[[]int]) {
			t.Errorf("Elements(%d) = %v, want %v", c.n, l, c.want)
		}
	}
}

// P12.5: the numbers of elements are the Catalan numbers.
func TestNumbersOfElements(t *testing.T) {
	for i, want := range []int{1, 2, 5, 14, 42, 132} {
		if l := elements(t, i+1); len(l) != want {
			t.Errorf("Elements(%d) has %d matchings, want %d", i+1, len(l), want)
		}
	}
}

// P12.5: the elements are those lists that Check accepts, in lexicographic order.
func TestElementsFollowTheDefinition(t *testing.T) {
	for n := 1; n <= api.MaxStrands; n++ {
		l, want := elements(t, n), planar(n)
		slices.SortFunc(want, slices.Compare[[]int])
		if !slices.EqualFunc(l, want, slices.Equal[[]int]) {
			t.Errorf("Elements(%d) = %v, want %v", n, l, want)
		}
		for _, d := range l {
			if e := Check(n, d); e != api.OK {
				t.Errorf("Check(%d, %v) = %d", n, d, e)
			}
		}
	}
}

// P12.5: products of generators reach all elements.
func TestGeneratorsReachAllElements(t *testing.T) {
	for n := 1; n <= api.MaxStrands; n++ {
		reached := [][]int{identity(t, n)}
		for at := 0; at < len(reached); at++ {
			for i := 1; i < n; i++ {
				d, _ := product(t, n, reached[at], generator(t, n, i))
				if !slices.ContainsFunc(reached, func(r []int) bool { return slices.Equal(r, d) }) {
					reached = append(reached, d)
				}
			}
		}
		slices.SortFunc(reached, slices.Compare[[]int])
		if l := elements(t, n); !slices.EqualFunc(l, reached, slices.Equal[[]int]) {
			t.Errorf("Elements(%d) = %v, but the generators reach %v", n, l, reached)
		}
	}
}

// P12.5: the number of points is out of range.
func TestErrorsOfElements(t *testing.T) {
	for _, n := range []int{math.MinInt, -1, 0, 7, 8, 1<<32 + 1, math.MaxInt} {
		if l, e := Elements(n); e != api.ErrArgument || len(l) > 0 {
			t.Errorf("Elements(%d) = %v, %d", n, l, e)
		}
	}
}
