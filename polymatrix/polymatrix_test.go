package polymatrix

import (
	"maps"
	"math"
	"slices"
	"testing"

	"timbrel/api"
	"timbrel/intmatrix"
	"timbrel/laurent"
)

// matrix is a matrix of polynomials.
type matrix = [][]api.Poly

// row is one row of it.
type row = []api.Poly

// poly returns the polynomial with the given coefficients.
func poly(low int, c ...int) api.Poly {
	return api.Poly{Low: low, C: c}
}

// number returns a constant polynomial.
func number(x int) api.Poly {
	if x == 0 {
		return api.Poly{}
	}
	return poly(0, x)
}

// long returns a polynomial with n coefficients x.
func long(low, n, x int) api.Poly {
	return poly(low, slices.Repeat([]int{x}, n)...)
}

// wide returns a polynomial with n coefficients, the first one x, the last one y and the others 0.
func wide(low, n, x, y int) api.Poly {
	p := long(low, n, 0)
	p.C[0], p.C[n-1] = x, y
	return p
}

// filled returns a matrix all of whose elements are p.
func filled(rows, columns int, p api.Poly) matrix {
	m := make(matrix, rows)
	for i := range m {
		m[i] = slices.Repeat(row{p}, columns)
	}
	return m
}

// diagonal returns a square matrix with the given elements from the upper left corner on and 0 elsewhere.
func diagonal(elements ...api.Poly) matrix {
	m := filled(len(elements), len(elements), poly(0))
	for i, p := range elements {
		m[i][i] = p
	}
	return m
}

// upwards returns a matrix with its rows in the opposite order.
func upwards(m matrix) matrix {
	l := slices.Clone(m)
	slices.Reverse(l)
	return l
}

// cross returns the sum of a diagonal matrix and of one whose rows are in the opposite order. Both have an even size.
func cross(a, b []api.Poly) matrix {
	m, l := diagonal(a...), upwards(diagonal(b...))
	for i := range m {
		for j, p := range l[i] {
			if i != j {
				m[i][j] = p
			}
		}
	}
	return m
}

// with returns a copy of a matrix with another element.
func with(m matrix, i, j int, p api.Poly) matrix {
	l := slices.Clone(m)
	l[i] = slices.Clone(l[i])
	l[i][j] = p
	return l
}

// numbers returns a matrix of constants.
func numbers(rows ...[]int) matrix {
	var m matrix
	for _, r := range rows {
		var l row
		for _, x := range r {
			l = append(l, number(x))
		}
		m = append(m, l)
	}
	return m
}

func same(a, b api.Poly) bool {
	return a.Low == b.Low && slices.Equal(a.C, b.C)
}

// source is a sequence of numbers that look random and are always the same.
type source uint64

func (s *source) below(n int) int {
	*s = *s*6364136223846793005 + 1442695040888963407
	return int(uint64(*s) >> 33 % uint64(n))
}

// poly returns a polynomial of at most n coefficients from -bound to bound.
func (s *source) poly(n, low, bound int) api.Poly {
	sum := byExponent{}
	begin := s.below(2*low+1) - low
	for i := range s.below(n + 1) {
		sum[begin+i] = s.below(2*bound+1) - bound
	}
	p, _ := sum.result()
	// A first coefficient 0 can have moved the lowest exponent beyond the limit.
	p.Low = min(p.Low, MaxTerms)
	return p
}

func (s *source) matrix(side, n, low, bound int) matrix {
	m := filled(side, side, poly(0))
	for i := range m {
		for j := range m {
			m[i][j] = s.poly(n, low, bound)
		}
	}
	return m
}

// samples returns matrices of all sizes, with short and long elements.
func samples() []matrix {
	var s source
	var all []matrix
	for side := range MaxSide + 1 {
		for range 12 {
			all = append(all,
				s.matrix(side, 1, 0, 9),
				s.matrix(side, 1, 20, 1),
				s.matrix(side, 2, 1, 1),
				s.matrix(side, 3, 2, 2),
				s.matrix(side, 5, 20, 10),
				s.matrix(side, 8, 10, 50),
				s.matrix(side, 14, 19, 30),
				s.matrix(side, 19, 19, 999),
			)
		}
	}
	return all
}

// byExponent is a polynomial as a map from exponents to coefficients.
type byExponent map[int]int

// result returns what a function returns whose result has these terms.
func (m byExponent) result() (api.Poly, api.Errno) {
	maps.DeleteFunc(m, func(_, x int) bool { return x == 0 })
	if len(m) == 0 {
		return api.Poly{}, api.OK
	}
	exponents := slices.Sorted(maps.Keys(m))
	low, high := exponents[0], exponents[len(exponents)-1]
	if low < -1000 || low > 1000 || high-low >= 200 {
		return api.Poly{}, api.ErrTooLarge
	}
	p := poly(low)
	for k := low; k <= high; k++ {
		if m[k] < -100000000 || m[k] > 100000000 {
			return api.Poly{}, api.ErrTooLarge
		}
		p.C = append(p.C, m[k])
	}
	return p, api.OK
}

func plainProduct(a byExponent, p api.Poly) byExponent {
	product := byExponent{}
	for k, x := range a {
		for i, y := range p.C {
			product[k+p.Low+i] += x * y
		}
	}
	return product
}

// plainDet adds the products of all choices of one element in each row and column, with their signs.
func plainDet(m matrix) byExponent {
	total := byExponent{}
	var choose func(used []int, product byExponent)
	choose = func(used []int, product byExponent) {
		if len(used) == len(m) {
			for k, x := range product {
				total[k] += x
			}
			return
		}
		for column, p := range m[len(used)] {
			if slices.Contains(used, column) {
				continue
			}
			// The column forms an inversion with each one that is used and lies behind it.
			sign := 1
			for _, u := range used {
				if u > column {
					sign = -sign
				}
			}
			next := plainProduct(plainProduct(product, p), poly(0, sign))
			choose(append(slices.Clone(used), column), next)
		}
	}
	choose(nil, byExponent{0: 1})
	return total
}

var good2 = matrix{{poly(1, 1), poly(0, 1)}, {poly(0, 1), poly(1, 1)}}

var checkCases = []struct {
	m    matrix
	want api.Errno
}{
	{nil, api.OK},
	{matrix{}, api.OK},
	{good2, api.OK},
	{filled(1, 1, poly(0)), api.OK},
	{filled(4, 4, poly(0)), api.OK},
	{filled(4, 4, long(-20, 20, 1000)), api.OK},
	{filled(4, 4, long(20, 20, -1000)), api.OK},
	{filled(3, 3, wide(-20, 20, -1000, 1000)), api.OK},

	// The number of rows.
	{filled(5, 5, poly(0, 1)), api.ErrTooLarge},
	{filled(5, 0, poly(0)), api.ErrTooLarge},
	{make(matrix, 6), api.ErrTooLarge},

	// The numbers of elements.
	{filled(1, 0, poly(0)), api.ErrMalformed},
	{filled(1, 2, poly(0)), api.ErrMalformed},
	{filled(2, 1, poly(0)), api.ErrMalformed},
	{filled(2, 3, poly(0)), api.ErrMalformed},
	{filled(4, 3, poly(0)), api.ErrMalformed},
	{filled(3, 4, poly(0)), api.ErrMalformed},
	{filled(4, 5, poly(0)), api.ErrMalformed},
	{make(matrix, 4), api.ErrMalformed},
	{matrix{{poly(0, 1), poly(1, 1)}, {poly(0, 1)}}, api.ErrMalformed},
	{matrix{{poly(0, 1)}, {poly(0, 1), poly(1, 1)}}, api.ErrMalformed},
	{matrix{{poly(0, 1), poly(1, 1)}, {poly(0, 1), poly(0, 1), poly(0, 1)}}, api.ErrMalformed},
	{matrix{{poly(0, 1), poly(1, 1)}, nil}, api.ErrMalformed},

	// The errors of laurent.Check, for each place.
	{with(good2, 0, 0, long(0, 201, 1)), api.ErrTooLarge},
	{with(good2, 0, 1, poly(1001, 1)), api.ErrTooLarge},
	{with(good2, 1, 0, poly(-1001, 1)), api.ErrTooLarge},
	{with(good2, 0, 0, poly(0, 0)), api.ErrMalformed},
	{with(good2, 0, 1, poly(0, 0, 1)), api.ErrMalformed},
	{with(good2, 1, 0, poly(0, 1, 0)), api.ErrMalformed},
	{with(good2, 1, 1, poly(1)), api.ErrMalformed},
	{with(good2, 0, 0, poly(0, 100000001)), api.ErrArgument},
	{with(good2, 1, 1, poly(0, 1, math.MinInt, 1)), api.ErrArgument},
	{filled(1, 1, poly(math.MinInt, 1)), api.ErrTooLarge},
	{filled(1, 1, poly(math.MaxInt, 1)), api.ErrTooLarge},

	// The number of coefficients.
	{filled(1, 1, long(0, 20, 1)), api.OK},
	{filled(1, 1, long(0, 21, 1)), api.ErrTooLarge},
	{filled(1, 1, long(0, 200, 1)), api.ErrTooLarge},
	{with(good2, 1, 1, wide(-20, 20, 1, 1)), api.OK},
	{with(good2, 1, 1, wide(-20, 21, 1, 1)), api.ErrTooLarge},

	// The lowest exponent.
	{filled(1, 1, poly(20, 1)), api.OK},
	{filled(1, 1, poly(-20, 1)), api.OK},
	{filled(1, 1, poly(21, 1)), api.ErrTooLarge},
	{filled(1, 1, poly(-21, 1)), api.ErrTooLarge},
	{filled(1, 1, poly(-21, 1, 1, 1)), api.ErrTooLarge},
	{with(good2, 0, 1, poly(1000, 1)), api.ErrTooLarge},
	{with(good2, 1, 0, poly(-1000, 1)), api.ErrTooLarge},

	// The coefficients.
	{filled(1, 1, poly(0, 1000)), api.OK},
	{filled(1, 1, poly(0, -1000)), api.OK},
	{filled(1, 1, poly(0, 1001)), api.ErrArgument},
	{filled(1, 1, poly(0, -1001)), api.ErrArgument},
	{filled(1, 1, poly(0, 100000000)), api.ErrArgument},
	{with(good2, 0, 0, poly(0, 1001, 1)), api.ErrArgument},
	{with(good2, 0, 1, poly(0, 1, 1001, 1)), api.ErrArgument},
	{with(good2, 1, 0, poly(0, 1, -1001)), api.ErrArgument},
	{with(diagonal(poly(0), poly(0), poly(0), poly(0)), 3, 3, poly(0, 1001)), api.ErrArgument},

	// Several errors of a matrix: the rows are counted first.
	{filled(5, 4, poly(0, 1001)), api.ErrTooLarge},
	{filled(5, 5, poly(0, 0)), api.ErrTooLarge},
	// The elements of a row are counted before they are checked.
	{filled(1, 2, poly(0, 1001)), api.ErrMalformed},
	{filled(2, 1, long(0, 21, 1)), api.ErrMalformed},
	{matrix{{poly(0, 1), poly(0, 1)}, {poly(0, 1001)}}, api.ErrMalformed},
	// A row is checked before the next one is counted.
	{matrix{{poly(0, 1), poly(0, 1001)}, {poly(0, 1)}}, api.ErrArgument},
	{matrix{{poly(21, 1), poly(0, 1)}, nil}, api.ErrTooLarge},
	{matrix{{poly(0, 1)}, {poly(0, 1001), poly(0, 1)}}, api.ErrMalformed},

	// The first element with an error determines it.
	{matrix{{poly(0, 1001), poly(21, 1)}, {poly(1), poly(0)}}, api.ErrArgument},
	{matrix{{poly(21, 1), poly(0, 1001)}, {poly(1), poly(0)}}, api.ErrTooLarge},
	{matrix{{poly(1), poly(0, 1001)}, {poly(21, 1), poly(0)}}, api.ErrMalformed},
	{matrix{{poly(0), poly(0, 1001)}, {poly(21, 1), poly(0)}}, api.ErrArgument},
	{matrix{{poly(0), poly(0)}, {poly(21, 1), poly(0, 1001)}}, api.ErrTooLarge},

	// Several errors of one element: laurent.Check comes first, then the exponents, then the coefficients.
	{filled(1, 1, long(0, 21, 100000001)), api.ErrArgument},
	{filled(1, 1, poly(21, 100000001)), api.ErrArgument},
	{filled(1, 1, poly(21, 0)), api.ErrMalformed},
	{filled(1, 1, poly(21)), api.ErrMalformed},
	{filled(1, 1, poly(1001, 0)), api.ErrTooLarge},
	{filled(1, 1, poly(0, 1001, 0)), api.ErrMalformed},
	{filled(1, 1, long(0, 21, 1001)), api.ErrTooLarge},
	{filled(1, 1, poly(-21, 1001)), api.ErrTooLarge},
	{filled(1, 1, poly(21, 1001)), api.ErrTooLarge},
}

// P7.1: Check.
func TestCheck(t *testing.T) {
	for _, c := range checkCases {
		if e := Check(c.m); e != c.want {
			t.Errorf("Check(%v) = %d, want %d", c.m, e, c.want)
		}
	}
}

// P7.1: the limits are those of this package.
func TestLimits(t *testing.T) {
	if MaxSide != 4 || MaxTerms != 20 || MaxCoeff != 1000 {
		t.Errorf("limits %d, %d and %d", MaxSide, MaxTerms, MaxCoeff)
	}
}

// P7.1: one more than a limit, at every place of matrices of every size.
func TestCheckEveryPlace(t *testing.T) {
	for side := 1; side <= MaxSide; side++ {
		full := filled(side, side, wide(-20, 20, 1000, -1000))
		for i := range side {
			for j := range side {
				for _, c := range []struct {
					p    api.Poly
					want api.Errno
				}{
					{poly(20, -1000), api.OK},
					{poly(0), api.OK},
					{poly(20, -1001), api.ErrArgument},
					{poly(21, 1), api.ErrTooLarge},
					{long(-20, 21, 1), api.ErrTooLarge},
					{poly(0, 0), api.ErrMalformed},
				} {
					if e := Check(with(full, i, j, c.p)); e != c.want {
						t.Errorf("Check with %v in row %d and column %d of %d = %d, want %d", c.p, i, j, side, e, c.want)
					}
				}
			}
			for _, length := range []int{0, side - 1, side + 1} {
				m := slices.Clone(full)
				m[i] = slices.Repeat(row{poly(0, 1)}, length)
				if e := Check(m); e != api.ErrMalformed {
					t.Errorf("Check with %d elements in row %d of %d = %d", length, i, side, e)
				}
			}
		}
	}
}

var detCases = []struct {
	m    matrix
	want api.Poly
}{
	// The example.
	{good2, poly(0, -1, 0, 1)},

	// No rows and one row.
	{nil, poly(0, 1)},
	{matrix{}, poly(0, 1)},
	{filled(1, 1, poly(0)), poly(0)},
	{filled(1, 1, poly(-3, 1, 0, -1)), poly(-3, 1, 0, -1)},
	{filled(1, 1, long(-20, 20, 1000)), long(-20, 20, 1000)},
	{filled(1, 1, wide(20, 20, -1000, 1)), wide(20, 20, -1000, 1)},

	// Numbers.
	{numbers([]int{1, 2}, []int{3, 4}), poly(0, -2)},
	{numbers([]int{0, 1}, []int{1, 0}), poly(0, -1)},
	{numbers([]int{2, 0, 0}, []int{0, 3, 0}, []int{0, 0, 5}), poly(0, 30)},
	{numbers([]int{0, 1, 0}, []int{0, 0, 1}, []int{1, 0, 0}), poly(0, 1)},
	{numbers([]int{0, 0, 1}, []int{0, 1, 0}, []int{1, 0, 0}), poly(0, -1)},
	{numbers([]int{1, 2, 3}, []int{4, 5, 6}, []int{7, 8, 10}), poly(0, -3)},
	{numbers([]int{1, 2, 3}, []int{4, 5, 6}, []int{7, 8, 9}), poly(0)},
	{numbers([]int{0, 1, 0, 0}, []int{0, 0, 1, 0}, []int{0, 0, 0, 1}, []int{1, 0, 0, 0}), poly(0, -1)},
	{numbers([]int{1, 1, 1, 1}, []int{1, -1, 1, -1}, []int{1, 1, -1, -1}, []int{1, -1, -1, 1}), poly(0, 16)},

	// Dependent rows and columns, and zeros.
	{filled(2, 2, poly(1, 1, 1)), poly(0)},
	{matrix{{poly(1, 1), poly(1, 1)}, {poly(0, 1), poly(0, 1)}}, poly(0)},
	{matrix{{poly(0, 1), poly(1, 1)}, {poly(-1, 1), poly(0, 1)}}, poly(0)},
	{filled(4, 4, poly(0)), poly(0)},
	{with(filled(3, 3, poly(2, 7)), 0, 0, poly(0)), poly(0)},

	// Terms at both ends cancel.
	{matrix{{poly(0, 1, 1), poly(0, 1)}, {poly(0, 1), poly(0, 1, 1)}}, poly(1, 2, 1)},
	{matrix{{poly(0, 1, 1), poly(2, 1)}, {poly(0, 1), poly(0, 1, 1)}}, poly(0, 1, 2)},
	{matrix{{poly(0, 1, 1), poly(0, 1, 0, 1)}, {poly(0, 1), poly(0, 1, 1)}}, poly(1, 2)},
	{matrix{{poly(0, 1, 1), poly(0, 1)}, {poly(0, -1, 1), poly(0, -1, 1)}}, poly(1, -1, 1)},

	// Burau matrices of the letters 1 and -2, and the identity minus a part of one.
	{matrix{{poly(0, 1, -1), poly(1, 1)}, {poly(0, 1), poly(0)}}, poly(1, -1)},
	{matrix{{poly(0), poly(0, 1)}, {poly(-1, 1), poly(-1, -1, 1)}}, poly(-1, -1)},
	{filled(1, 1, poly(1, 1, -1, 1)), poly(1, 1, -1, 1)},

	// Products on both diagonals.
	{diagonal(poly(-20, 1), poly(-20, 1), poly(-20, 1), poly(-20, 1)), poly(-80, 1)},
	{diagonal(wide(20, 20, 1, 1), poly(20, 1), poly(20, 1), poly(20, 1)), wide(80, 20, 1, 1)},
	{upwards(diagonal(poly(3, 2), poly(-5, 7))), poly(-2, -14)},
	{upwards(diagonal(poly(3, 2), poly(-5, 7), poly(1, -1))), poly(-1, 14)},
	{upwards(diagonal(poly(3, 2), poly(-5, 7), poly(1, -1), poly(0, 1, 1))), poly(-1, -14, -14)},
	{diagonal(long(0, 20, 1), long(0, 20, 1)), poly(0, 1, 2, 3, 4, 5, 6, 7, 8, 9, 10, 11, 12, 13, 14, 15, 16, 17, 18, 19, 20, 19, 18, 17, 16, 15, 14, 13, 12, 11, 10, 9, 8, 7, 6, 5, 4, 3, 2, 1)},

	// Coefficients up to the limit of polynomials.
	{diagonal(poly(0, 1000), poly(0, 1000), poly(0, 100)), poly(0, 100000000)},
	{upwards(diagonal(poly(0, 1000), poly(0, 1000), poly(0, 100))), poly(0, -100000000)},
	{numbers([]int{100, -1, 0}, []int{0, 1000, 1}, []int{1, 0, 1000}), poly(0, 99999999)},

	// Sums in between above the limits of polynomials.
	{filled(4, 4, long(-20, 20, 1000)), poly(0)},
	{filled(4, 4, wide(20, 20, 1000, -1000)), poly(0)},
	{filled(3, 3, long(20, 20, -1000)), poly(0)},
	{numbers([]int{1000, 999, 0}, []int{999, 998, 0}, []int{0, 0, 1000}), poly(0, -1000)},
	{numbers([]int{1000, 999, 0, 0}, []int{999, 998, 0, 0}, []int{0, 0, 1000, 999}, []int{0, 0, 999, 998}), poly(0, 1)},
	{numbers([]int{1000, 999, 1000, 1}, []int{1000, 1000, 1000, 0}, []int{1000, 1000, 1000, 1}, []int{999, 1000, 1000, 1000}), poly(0, -1000)},
	{with(diagonal(long(0, 20, 1000), long(0, 20, 1000), long(0, 20, 1000), poly(0)), 0, 3, long(0, 20, 1000)), poly(0)},
}

// P7.2: Det.
func TestDet(t *testing.T) {
	for _, c := range detCases {
		if p, e := Det(c.m); !same(p, c.want) || e != api.OK {
			t.Errorf("Det(%v) = %v, %d, want %v", c.m, p, e, c.want)
		}
	}
}

// corner returns elements whose product has the lowest exponent -80.
func corner() []api.Poly {
	return slices.Repeat(row{poly(-20, 1)}, 4)
}

// P7.2: ErrTooLarge if laurent.Check does not accept the determinant.
func TestDeterminantsBeyondTheLimits(t *testing.T) {
	top30, top29 := wide(11, 20, 1, 1), wide(10, 20, 1, 1)
	for _, c := range []struct {
		m    matrix
		want api.Errno
	}{
		// Exponents from -80 to 119 are 200 coefficients.
		{cross(corner(), row{top30, top30, top30, top29}), api.OK},
		{cross(corner(), row{top30, top30, top30, top30}), api.ErrTooLarge},
		{cross(corner(), slices.Repeat(row{wide(20, 20, 1, 1)}, 4)), api.ErrTooLarge},
		{cross(slices.Repeat(row{wide(20, 20, 1, 1)}, 4), corner()), api.ErrTooLarge},

		// Coefficients above the limit of polynomials at the beginning, in the middle and at the end.
		{numbers([]int{100, 1, 0}, []int{0, 1000, 1}, []int{1, 0, 1000}), api.ErrTooLarge},
		{numbers([]int{0, 1000, 1}, []int{100, 1, 0}, []int{1, 0, 1000}), api.ErrTooLarge},
		{diagonal(poly(0, 1000), poly(0, 1000), poly(0, 101)), api.ErrTooLarge},
		{diagonal(poly(0, 1000), poly(0, 1000), poly(0, 101, 1)), api.ErrTooLarge},
		{diagonal(poly(0, 1000), poly(0, 1000), poly(0, 1, -101)), api.ErrTooLarge},
		{diagonal(poly(0, 1000), poly(0, 1000), poly(0, 1, 101, 1)), api.ErrTooLarge},
		{diagonal(poly(0, 1000), poly(0, 1000), poly(0, 1, 100, 1)), api.OK},
		{diagonal(long(0, 20, 1000), long(0, 20, 1000)), api.OK},
		{diagonal(long(0, 20, 1000), long(0, 20, 1000), long(0, 20, 1)), api.ErrTooLarge},
		{diagonal(long(0, 20, 1000), long(0, 20, 1000), long(0, 20, 1000), long(0, 20, 1000)), api.ErrTooLarge},
		{diagonal(poly(-20, 1000), poly(-20, -1000), poly(-20, 1000), poly(-20, 1000)), api.ErrTooLarge},
	} {
		p, e := Det(c.m)
		if e != c.want || e != api.OK && !same(p, api.Poly{}) {
			t.Errorf("Det(%v) = %v, %d, want error %d", c.m, p, e, c.want)
		}
		if want, _ := plainDet(c.m).result(); !same(p, want) {
			t.Errorf("Det(%v) = %v, want %v", c.m, p, want)
		}
	}
}

// P7.2: the errors of Check.
func TestErrorsOfDet(t *testing.T) {
	for _, c := range checkCases {
		if c.want == api.OK {
			continue
		}
		if p, e := Det(c.m); e != c.want || !same(p, api.Poly{}) {
			t.Errorf("Det(%v) = %v, %d, want error %d", c.m, p, e, c.want)
		}
	}
}

// P7.2: the sum over all permutations.
func TestDetFollowsTheDefinition(t *testing.T) {
	count := map[api.Errno]int{}
	for _, m := range samples() {
		want, wantError := plainDet(m).result()
		p, e := Det(m)
		if !same(p, want) || e != wantError {
			t.Errorf("Det(%v) = %v, %d, want %v, %d", m, p, e, want, wantError)
		}
		count[e]++
	}
	if count[api.OK] < 100 || count[api.ErrTooLarge] < 20 {
		t.Errorf("samples with each error: %v", count)
	}
}

// P7.2: all matrices with two rows and with elements from a few small ones.
func TestSmallDeterminants(t *testing.T) {
	few := row{poly(0), poly(0, 1), poly(0, -1), poly(1, 1), poly(-1, 1), poly(0, 1, 1), poly(0, 1, -1), poly(-1, 1, 0, 1)}
	for _, a := range few {
		for _, b := range few {
			for _, c := range few {
				for _, d := range few {
					m := matrix{{a, b}, {c, d}}
					ad, _ := laurent.Mul(a, d)
					bc, _ := laurent.Mul(b, c)
					want, _ := laurent.Sub(ad, bc)
					if p, e := Det(m); !same(p, want) || e != api.OK {
						t.Errorf("Det(%v) = %v, %d, want %v", m, p, e, want)
					}
				}
			}
		}
	}
}

// P7.2: rows and columns can be exchanged for each other, and exchanging two rows changes the sign.
func TestDetOfExchangedRows(t *testing.T) {
	for _, m := range samples() {
		p, e := Det(m)
		flipped := filled(len(m), len(m), poly(0))
		for i := range m {
			for j := range m {
				flipped[j][i] = m[i][j]
			}
		}
		if q, f := Det(flipped); !same(p, q) || e != f {
			t.Errorf("Det(%v) = %v, %d, but %v, %d with rows and columns exchanged", m, p, e, q, f)
		}
		minus, _ := laurent.Sub(api.Poly{}, p)
		for i := 1; i < len(m); i++ {
			l := slices.Clone(m)
			l[0], l[i] = l[i], l[0]
			if q, f := Det(l); !same(q, minus) || e != f {
				t.Errorf("Det(%v) = %v, %d, but %v, %d for %v", m, p, e, q, f, l)
			}
		}
	}
}

// P7.2: the value at 1 is the determinant of the values.
func TestDetAgreesWithIntegers(t *testing.T) {
	var s source
	for range 300 {
		m := s.matrix(s.below(MaxSide+1), 6, 20, 9)
		values := make([][]int, len(m))
		for i := range m {
			for _, p := range m[i] {
				x, _ := laurent.Eval(p, 1)
				values[i] = append(values[i], x)
			}
		}
		want, f := intmatrix.Det(values)
		p, e := Det(m)
		if got, g := laurent.Eval(p, 1); got != want || e != api.OK || f != api.OK || g != api.OK {
			t.Errorf("Det(%v) = %v, %d, with the value %d, want %d", m, p, e, got, want)
		}
	}
}
