package temperleylieb

import (
	"slices"
	"testing"

	"timbrel/api"
)

// P12.3: Product.
func TestProduct(t *testing.T) {
	for _, c := range []struct {
		n       int
		a, b, d []int
		loops   int
	}{
		{1, []int{1, 0}, []int{1, 0}, []int{1, 0}, 0},
		{2, []int{1, 0, 3, 2}, []int{1, 0, 3, 2}, []int{1, 0, 3, 2}, 1},
		{2, []int{2, 3, 0, 1}, []int{1, 0, 3, 2}, []int{1, 0, 3, 2}, 0},
		{2, []int{2, 3, 0, 1}, []int{2, 3, 0, 1}, []int{2, 3, 0, 1}, 0},

		// The order matters.
		{3, []int{1, 0, 5, 4, 3, 2}, []int{3, 2, 1, 0, 5, 4}, []int{1, 0, 3, 2, 5, 4}, 0},
		{3, []int{3, 2, 1, 0, 5, 4}, []int{1, 0, 5, 4, 3, 2}, []int{5, 2, 1, 4, 3, 0}, 0},

		// Two loops side by side, two loops one in the other, and one loop with two arcs in each row.
		{4, []int{1, 0, 3, 2, 5, 4, 7, 6}, []int{1, 0, 3, 2, 5, 4, 7, 6}, []int{1, 0, 3, 2, 5, 4, 7, 6}, 2},
		{4, []int{3, 2, 1, 0, 7, 6, 5, 4}, []int{3, 2, 1, 0, 7, 6, 5, 4}, []int{3, 2, 1, 0, 7, 6, 5, 4}, 2},
		{4, []int{1, 0, 3, 2, 7, 6, 5, 4}, []int{1, 0, 3, 2, 7, 6, 5, 4}, []int{1, 0, 3, 2, 7, 6, 5, 4}, 1},

		// A line that turns several times.
		{5, []int{5, 2, 1, 4, 3, 0, 7, 6, 9, 8}, []int{1, 0, 3, 2, 9, 6, 5, 8, 7, 4}, []int{9, 2, 1, 4, 3, 6, 5, 8, 7, 0}, 0},
		{6, []int{1, 0, 3, 2, 5, 4, 7, 6, 9, 8, 11, 10}, []int{6, 2, 1, 4, 3, 11, 0, 8, 7, 10, 9, 5}, []int{1, 0, 3, 2, 5, 4, 11, 8, 7, 10, 9, 6}, 0},
		{6, []int{1, 0, 3, 2, 5, 4, 7, 6, 9, 8, 11, 10}, []int{5, 2, 1, 4, 3, 0, 11, 8, 7, 10, 9, 6}, []int{1, 0, 3, 2, 5, 4, 11, 8, 7, 10, 9, 6}, 1},
		{6, []int{1, 0, 3, 2, 5, 4, 7, 6, 9, 8, 11, 10}, []int{1, 0, 3, 2, 5, 4, 7, 6, 9, 8, 11, 10}, []int{1, 0, 3, 2, 5, 4, 7, 6, 9, 8, 11, 10}, 3},
	} {
		if d, loops, e := Product(c.n, c.a, c.b); e != api.OK || loops != c.loops || !slices.Equal(d, c.d) {
			t.Errorf("Product(%d, %v, %v) = %v, %d, %d, want %v, %d", c.n, c.a, c.b, d, loops, e, c.d, c.loops)
		}
	}
}

// P12.3: the remaining points and the loops are connected like in the two matchings.
func TestProductFollowsTheDefinition(t *testing.T) {
	for _, c := range samplePairs() {
		want, loops := plainProduct(c.n, c.a, c.b)
		if d, k := product(t, c.n, c.a, c.b); k != loops || !slices.Equal(d, want) {
			t.Errorf("Product(%d, %v, %v) = %v, %d, want %v, %d", c.n, c.a, c.b, d, k, want, loops)
		}
	}
}

// P12.3: a product of planar matchings is a planar matching.
func TestProductIsPlanar(t *testing.T) {
	for _, c := range samplePairs() {
		if d, _ := product(t, c.n, c.a, c.b); Check(c.n, d) != api.OK {
			t.Errorf("Product(%d, %v, %v) = %v, which is not planar", c.n, c.a, c.b, d)
		}
	}
}

// P12.3: the identity changes nothing, on either side.
func TestProductWithIdentity(t *testing.T) {
	for n := 1; n <= api.MaxStrands; n++ {
		for _, d := range planar(n) {
			for _, pair := range [][2][]int{{d, identity(t, n)}, {identity(t, n), d}} {
				if p, k := product(t, n, pair[0], pair[1]); k != 0 || !slices.Equal(p, d) {
					t.Errorf("Product(%d, %v, %v) = %v, %d", n, pair[0], pair[1], p, k)
				}
			}
		}
	}
}

// P12.3: the products of generators: the square has a loop, neighbours cancel, and distant ones commute.
func TestProductsOfGenerators(t *testing.T) {
	for n := 2; n <= api.MaxStrands; n++ {
		for i := 1; i < n; i++ {
			u := generator(t, n, i)
			if d, k := product(t, n, u, u); k != 1 || !slices.Equal(d, u) {
				t.Errorf("on %d strands, the square of generator %d is %v with %d loops", n, i, d, k)
			}
			for j := 1; j < n; j++ {
				v := generator(t, n, j)
				if j == i-1 || j == i+1 {
					if d, k := product(t, n, u, v, u); k != 0 || !slices.Equal(d, u) {
						t.Errorf("on %d strands, the product of %d, %d, %d is %v with %d loops", n, i, j, i, d, k)
					}
					continue
				}
				d, k := product(t, n, u, v)
				if p, l := product(t, n, v, u); k != l || !slices.Equal(p, d) {
					t.Errorf("on %d strands, the products of %d and %d are %v with %d loops and %v with %d loops", n, i, j, d, k, p, l)
				}
			}
		}
	}
}

// P12.3: the order in which three matchings are put together changes neither the matching nor the number of loops.
func TestProductIsAssociative(t *testing.T) {
	var s source
	for n := 1; n <= api.MaxStrands; n++ {
		l := planar(n)
		for range 1000 {
			a, b, c := l[s.below(len(l))], l[s.below(len(l))], l[s.below(len(l))]
			left, k := product(t, n, a, b, c)
			right, loops := product(t, n, b, c)
			right, more := product(t, n, a, right)
			if k != loops+more || !slices.Equal(left, right) {
				t.Errorf("%d: %v, %v, %v: %v with %d loops, but %v with %d loops", n, a, b, c, left, k, right, loops+more)
			}
		}
	}
}

// P12.3: the errors of Check for a, then for b.
func TestErrorsOfProduct(t *testing.T) {
	for _, a := range checkCases {
		for _, b := range checkCases {
			if a.n != b.n {
				continue
			}
			want := a.want
			if want == api.OK {
				want = b.want
			}
			d, k, e := Product(a.n, a.d, b.d)
			if e != want || e != api.OK && (len(d) > 0 || k != 0) {
				t.Errorf("Product(%d, %v, %v) = %v, %d, %d, want error %d", a.n, a.d, b.d, d, k, e, want)
			}
		}
	}
}
