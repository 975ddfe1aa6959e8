package temperleylieb

import (
	"math"
	"slices"
	"testing"

	"timbrel/api"
)

// source is a sequence of numbers that look random and are always the same.
type source uint64

func (s *source) below(n int) int {
	*s = *s*6364136223846793005 + 1442695040888963407
	return int(uint64(*s) >> 33 % uint64(n))
}

// lists returns all lists of the given length of numbers from low to high, in lexicographic order.
func lists(length, low, high int) [][]int {
	all := [][]int{nil}
	for range length {
		var longer [][]int
		for _, l := range all {
			for x := low; x <= high; x++ {
				longer = append(longer, append(slices.Clone(l), x))
			}
		}
		all = longer
	}
	return all
}

// pairings returns all matchings of 2n points, planar or not: the last two points of a matching of fewer points are connected with each other, or take apart one of its lines.
func pairings(n int) [][]int {
	if n == 0 {
		return [][]int{nil}
	}
	last := 2*n - 1
	var all [][]int
	for _, l := range pairings(n - 1) {
		all = append(all, append(slices.Clone(l), last, last-1))
		for i, x := range l {
			d := append(slices.Clone(l), x, i)
			d[x], d[i] = last-1, last
			all = append(all, d)
		}
	}
	return all
}

// plainIsMatching reports whether a list is a matching of 2n points, as the chapter states it.
func plainIsMatching(n int, d []int) bool {
	for i, x := range d {
		if x < 0 || x >= 2*n || x == i || len(d) != 2*n || d[x] != i {
			return false
		}
	}
	return len(d) == 2*n
}

// plainIsPlanar reports whether no two lines of a matching cross. The upper points lie on a circle from left to right and the lower ones from right to left; two lines cross if exactly one end of the one lies between the ends of the other.
func plainIsPlanar(n int, d []int) bool {
	place := func(i int) int {
		if i >= n {
			return n + (2*n - 1 - i)
		}
		return i
	}
	for i, x := range d {
		isBetween := func(k int) bool {
			return min(place(i), place(x)) < place(k) && place(k) < max(place(i), place(x))
		}
		for k, y := range d {
			if k != i && k != x && isBetween(k) != isBetween(y) {
				return false
			}
		}
	}
	return true
}

// planar returns all planar matchings by the definitions, in no certain order.
func planar(n int) [][]int {
	return slices.DeleteFunc(pairings(n), func(d []int) bool { return !plainIsPlanar(n, d) })
}

// groups is a partition of points: two points are in one group if their labels are equal.
type groups []int

func newGroups(points int) groups {
	var g groups
	for i := range points {
		g = append(g, i)
	}
	return g
}

func (g groups) join(i, k int) {
	from, to := g[i], g[k]
	for j, label := range g {
		if label == from {
			g[j] = to
		}
	}
}

// count returns the number of groups.
func (g groups) count() int {
	labels := slices.Sorted(slices.Values(g))
	return len(slices.Compact(labels))
}

// plainProduct computes a product by the connected parts of both matchings: each part with two remaining points is a line, and each other part is a loop.
func plainProduct(n int, a, b []int) ([]int, int) {
	g := newGroups(3 * n)
	for i := range 2 * n {
		g.join(i, a[i])
		g.join(n+i, n+b[i])
	}
	d := make([]int, 2*n)
	outer := func(i int) int {
		if i < n {
			return i
		}
		return n + i
	}
	for i := range d {
		for k := range d {
			if k != i && g[outer(k)] == g[outer(i)] {
				d[i] = k
			}
		}
	}
	return d, g.count() - n
}

// plainClosure computes the loops of a closure by its connected parts.
func plainClosure(n int, d []int) int {
	g := newGroups(2 * n)
	for i, x := range d {
		g.join(i, x)
	}
	for i := range n {
		g.join(i, n+i)
	}
	return g.count()
}

// matchingPair are two planar matchings of 2n points.
type matchingPair struct {
	n    int
	a, b []int
}

// samplePairs returns all pairs of planar matchings with few points, and some with more.
func samplePairs() []matchingPair {
	var s source
	var all []matchingPair
	for n := 1; n <= api.MaxStrands; n++ {
		l := planar(n)
		if n <= 4 {
			for _, a := range l {
				for _, b := range l {
					all = append(all, matchingPair{n, a, b})
				}
			}
			continue
		}
		for range 1000 {
			all = append(all, matchingPair{n, l[s.below(len(l))], l[s.below(len(l))]})
		}
	}
	return all
}

// identity returns the identity, which has no error.
func identity(t *testing.T, n int) []int {
	t.Helper()
	d, e := Identity(n)
	if e != api.OK {
		t.Fatalf("Identity(%d) = %v, %d", n, d, e)
	}
	return d
}

// generator returns a generator that has no error.
func generator(t *testing.T, n, i int) []int {
	t.Helper()
	d, e := Generator(n, i)
	if e != api.OK {
		t.Fatalf("Generator(%d, %d) = %v, %d", n, i, d, e)
	}
	return d
}

// product returns the product of several matchings that have no error, from left to right, and the number of all loops.
func product(t *testing.T, n int, first []int, others ...[]int) ([]int, int) {
	t.Helper()
	d, loops := first, 0
	for _, b := range others {
		next, k, e := Product(n, d, b)
		if e != api.OK {
			t.Fatalf("Product(%d, %v, %v) = %v, %d, %d", n, d, b, next, k, e)
		}
		d, loops = next, loops+k
	}
	return d, loops
}

// closure returns the loops of the closure of a matching that has no error.
func closure(t *testing.T, n int, d []int) int {
	t.Helper()
	k, e := Closure(n, d)
	if e != api.OK {
		t.Fatalf("Closure(%d, %v) = %d, %d", n, d, k, e)
	}
	return k
}

// checkCases are lists with and without errors.
var checkCases = []struct {
	n    int
	d    []int
	want api.Errno
}{
	{1, []int{1, 0}, api.OK},
	{2, []int{1, 0, 3, 2}, api.OK},
	{2, []int{2, 3, 0, 1}, api.OK},
	{3, []int{1, 0, 3, 2, 5, 4}, api.OK},
	{3, []int{1, 0, 5, 4, 3, 2}, api.OK},
	{3, []int{3, 2, 1, 0, 5, 4}, api.OK},
	{3, []int{3, 4, 5, 0, 1, 2}, api.OK},
	{3, []int{5, 2, 1, 4, 3, 0}, api.OK},
	{4, []int{3, 2, 1, 0, 7, 6, 5, 4}, api.OK},
	{4, []int{1, 0, 3, 2, 7, 6, 5, 4}, api.OK},
	{6, []int{5, 4, 3, 2, 1, 0, 11, 10, 9, 8, 7, 6}, api.OK},
	{6, []int{6, 7, 8, 9, 10, 11, 0, 1, 2, 3, 4, 5}, api.OK},

	// The number of points.
	{0, nil, api.ErrArgument},
	{-1, nil, api.ErrArgument},
	{7, []int{7, 8, 9, 10, 11, 12, 13, 0, 1, 2, 3, 4, 5, 6}, api.ErrArgument},
	{math.MinInt, []int{1, 0}, api.ErrArgument},
	{math.MaxInt, []int{1, 0}, api.ErrArgument},
	{1<<32 + 1, []int{1, 0}, api.ErrArgument},
	{math.MinInt + 1, []int{1, 0}, api.ErrArgument},

	// The number of elements.
	{1, nil, api.ErrMalformed},
	{1, []int{1}, api.ErrMalformed},
	{1, []int{1, 0, 3, 2}, api.ErrMalformed},
	{2, []int{1, 0}, api.ErrMalformed},
	{2, []int{1, 0, 2}, api.ErrMalformed},
	{2, []int{2, 3, 0}, api.ErrMalformed},
	{2, []int{1, 0, 3, 2, 5, 4}, api.ErrMalformed},
	{2, []int{1, 0, 3, 2, 4}, api.ErrMalformed},
	{6, make([]int, 100000), api.ErrMalformed},

	// An element that is not a point.
	{1, []int{2, 0}, api.ErrMalformed},
	{1, []int{1, -1}, api.ErrMalformed},
	{1, []int{-1, -1}, api.ErrMalformed},
	{2, []int{1, 0, 4, 2}, api.ErrMalformed},
	{2, []int{1, 0, 3, -1}, api.ErrMalformed},
	{2, []int{math.MinInt, math.MaxInt, 3, 2}, api.ErrMalformed},
	{2, []int{1, 1 << 32, 3, 2}, api.ErrMalformed},

	// A point that is connected with itself.
	{1, []int{0, 1}, api.ErrMalformed},
	{2, []int{0, 1, 3, 2}, api.ErrMalformed},
	{2, []int{3, 1, 2, 0}, api.ErrMalformed},
	{2, []int{0, 1, 2, 3}, api.ErrMalformed},

	// Connections in one direction only.
	{1, []int{0, 0}, api.ErrMalformed},
	{1, []int{1, 1}, api.ErrMalformed},
	{2, []int{1, 2, 3, 0}, api.ErrMalformed},
	{2, []int{1, 0, 1, 0}, api.ErrMalformed},
	{2, []int{1, 0, 3, 1}, api.ErrMalformed},
	{3, []int{1, 2, 0, 4, 5, 3}, api.ErrMalformed},

	// Lines that cross.
	{2, []int{3, 2, 1, 0}, api.ErrMalformed},
	{3, []int{2, 4, 0, 5, 1, 3}, api.ErrMalformed},
	{3, []int{5, 4, 3, 2, 1, 0}, api.ErrMalformed},
	{3, []int{4, 3, 5, 1, 0, 2}, api.ErrMalformed},
	{3, []int{3, 5, 4, 0, 2, 1}, api.ErrMalformed},
	{4, []int{2, 3, 0, 1, 6, 7, 4, 5}, api.ErrMalformed},
	{4, []int{2, 3, 0, 1, 5, 4, 7, 6}, api.ErrMalformed},
	{4, []int{1, 0, 3, 2, 6, 7, 4, 5}, api.ErrMalformed},
	{6, []int{6, 7, 8, 9, 11, 10, 0, 1, 2, 3, 5, 4}, api.ErrMalformed},

	// Several errors: the number of points comes first.
	{0, []int{0}, api.ErrArgument},
	{7, []int{-1}, api.ErrArgument},
	{-1, make([]int, 100000), api.ErrArgument},
}
