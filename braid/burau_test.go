package braid

import (
	"maps"
	"slices"
	"testing"

	"timbrel/api"
	"timbrel/laurent"
	"timbrel/polymatrix"
)

// matrix is a matrix of polynomials.
type matrix = [][]api.Poly

// row is one row of it.
type row = []api.Poly

func same(a, b api.Poly) bool {
	return a.Low == b.Low && slices.Equal(a.C, b.C)
}

func sameMatrix(a, b matrix) bool {
	return slices.EqualFunc(a, b, func(x, y row) bool { return slices.EqualFunc(x, y, same) })
}

// terms is a polynomial as a map from exponents to coefficients. It has no coefficients 0.
type terms map[int]int

// addProduct adds p q.
func (m terms) addProduct(p, q terms) {
	for i, x := range p {
		for k, y := range q {
			m[i+k] += x * y
			if m[i+k] == 0 {
				delete(m, i+k)
			}
		}
	}
}

// poly returns the polynomial with these terms.
func (m terms) poly() api.Poly {
	if len(m) == 0 {
		return api.Poly{}
	}
	exponents := slices.Sorted(maps.Keys(m))
	p := api.Poly{Low: exponents[0]}
	for k := p.Low; k <= exponents[len(exponents)-1]; k++ {
		p.C = append(p.C, m[k])
	}
	return p
}

// plainIdentity returns the identity matrix.
func plainIdentity(n int) [][]terms {
	m := make([][]terms, n)
	for i := range m {
		for j := range n {
			m[i] = append(m[i], terms{})
			if i == j {
				m[i][j][0] = 1
			}
		}
	}
	return m
}

// plainLetter returns the matrix of a letter as P8.3 states it.
func plainLetter(n, x int) [][]terms {
	m := plainIdentity(n)
	if x > 0 {
		m[x-1][x-1], m[x-1][x] = terms{0: 1, 1: -1}, terms{1: 1}
		m[x][x-1], m[x][x] = terms{0: 1}, terms{}
		return m
	}
	i := -x
	m[i-1][i-1], m[i-1][i] = terms{}, terms{0: 1}
	m[i][i-1], m[i][i] = terms{-1: 1}, terms{0: 1, -1: -1}
	return m
}

// plainBurau divides a word in the middle and multiplies the matrices of its parts.
func plainBurau(n int, w []int) [][]terms {
	switch len(w) {
	case 0:
		return plainIdentity(n)
	case 1:
		return plainLetter(n, w[0])
	}
	a, b := plainBurau(n, w[:len(w)/2]), plainBurau(n, w[len(w)/2:])
	product := make([][]terms, n)
	for i := range n {
		for j := range n {
			sum := terms{}
			for k := range n {
				sum.addProduct(a[i][k], b[k][j])
			}
			product[i] = append(product[i], sum)
		}
	}
	return product
}

func polynomials(m [][]terms) matrix {
	var all matrix
	for _, line := range m {
		var l row
		for _, p := range line {
			l = append(l, p.poly())
		}
		all = append(all, l)
	}
	return all
}

// burau returns the matrix of a word that has no error.
func burau(t *testing.T, n int, w []int) matrix {
	t.Helper()
	m, e := Burau(n, w)
	if e != api.OK || len(m) != n {
		t.Fatalf("Burau(%d, %v) = %v, %d", n, w, m, e)
	}
	return m
}

// alternating returns the sum of all (-t)^k, for k from low to high.
func alternating(low, high int) api.Poly {
	sum := terms{}
	for k := low; k <= high; k++ {
		sum[k] = 1 - k%2*2
	}
	return sum.poly()
}

// minus returns -p.
func minus(p api.Poly) api.Poly {
	q, _ := laurent.Sub(api.Poly{}, p)
	return q
}

// P8.3: Burau.
func TestBurau(t *testing.T) {
	zero, one := poly(0), poly(0, 1)
	for _, c := range []struct {
		n    int
		w    []int
		want matrix
	}{
		// The matrices of letters.
		{1, nil, matrix{{one}}},
		{1, []int{}, matrix{{one}}},
		{2, nil, matrix{{one, zero}, {zero, one}}},
		{2, []int{1}, matrix{{poly(0, 1, -1), poly(1, 1)}, {one, zero}}},
		{2, []int{-1}, matrix{{zero, one}, {poly(-1, 1), poly(-1, -1, 1)}}},
		{3, []int{1}, matrix{{poly(0, 1, -1), poly(1, 1), zero}, {one, zero, zero}, {zero, zero, one}}},
		{3, []int{-2}, matrix{{one, zero, zero}, {zero, zero, one}, {zero, poly(-1, 1), poly(-1, -1, 1)}}},

		// Products: the matrix of the first letter is on the left.
		{2, []int{1, -1}, matrix{{one, zero}, {zero, one}}},
		{2, []int{-1, 1}, matrix{{one, zero}, {zero, one}}},
		{2, []int{1, 1}, matrix{{poly(0, 1, -1, 1), poly(1, 1, -1)}, {poly(0, 1, -1), poly(1, 1)}}},
		{3, []int{1, 2}, matrix{{poly(0, 1, -1), poly(1, 1, -1), poly(2, 1)}, {one, zero, zero}, {zero, one, zero}}},
		{3, []int{2, 1}, matrix{{poly(0, 1, -1), poly(1, 1), zero}, {poly(0, 1, -1), zero, poly(1, 1)}, {one, zero, zero}}},

		// MaxBurau letters.
		{2, repeat(16, 1), matrix{{alternating(0, 16), minus(alternating(1, 16))}, {alternating(0, 15), minus(alternating(1, 15))}}},
		{2, repeat(8, 1, -1), matrix{{one, zero}, {zero, one}}},
	} {
		if m, e := Burau(c.n, c.w); e != api.OK || !sameMatrix(m, c.want) {
			t.Errorf("Burau(%d, %v) = %v, %d, want %v", c.n, c.w, m, e, c.want)
		}
	}
}

// longWords returns words of MaxBurau letters, among them some whose matrices have large coefficients.
func longWords() []braidCase {
	var s source
	all := []braidCase{{3, repeat(8, 1, -2)}, {3, repeat(8, -2, 1)}, {4, repeat(4, 1, -2, 3, -2)}, {6, repeat(4, 1, -2, -4, 5)}}
	for n := 2; n <= api.MaxStrands; n++ {
		for _, i := range letters(n) {
			all = append(all, braidCase{n, repeat(16, i)})
		}
		for range 100 {
			all = append(all, braidCase{n, s.word(n, 16)})
		}
	}
	return all
}

// P8.3: the product of the matrices of all letters.
func TestBurauFollowsTheDefinition(t *testing.T) {
	for _, c := range append(samples(api.MaxBurau), longWords()...) {
		want := polynomials(plainBurau(c.n, c.w))
		if m, e := Burau(c.n, c.w); e != api.OK || !sameMatrix(m, want) {
			t.Errorf("Burau(%d, %v) = %v, %d, want %v", c.n, c.w, m, e, want)
		}
	}
}

// P8.3: ErrTooLarge if there are more than MaxBurau letters, after the error of Check.
func TestErrorsOfBurau(t *testing.T) {
	for _, c := range []struct {
		n    int
		w    []int
		want api.Errno
	}{
		{2, repeat(16, 1), api.OK},
		{6, repeat(8, -5, 5), api.OK},
		{2, repeat(17, 1), api.ErrTooLarge},
		{2, append(repeat(8, 1, -1), 1), api.ErrTooLarge},
		{6, repeat(30, -5), api.ErrTooLarge},
		{6, repeat(31, -5), api.ErrTooLarge},
		{2, repeat(17, 2), api.ErrMalformed},
		{2, append(repeat(16, 1), 0), api.ErrMalformed},
		{1, repeat(17, 1), api.ErrMalformed},
		{0, repeat(17, 1), api.ErrArgument},
		{7, repeat(17, 1), api.ErrArgument},
	} {
		m, e := Burau(c.n, c.w)
		if e != c.want || e != api.OK && len(m) != 0 {
			t.Errorf("Burau(%d, %v) = %v, %d, want error %d", c.n, c.w, m, e, c.want)
		}
	}
}

// checkSameBurau compares the matrices of the words u a v and u b v, for some u and v.
func checkSameBurau(t *testing.T, s *source, n int, a, b []int) {
	t.Helper()
	u, v := s.word(n, s.below(6)), s.word(n, s.below(6))
	first, second := slices.Concat(u, a, v), slices.Concat(u, b, v)
	if p, q := burau(t, n, first), burau(t, n, second); !sameMatrix(p, q) {
		t.Errorf("on %d strands: Burau of %v is %v, but of %v it is %v", n, first, p, second, q)
	}
}

// P8.3: words that are equal as braids have equal matrices.
func TestBurauOfEqualBraids(t *testing.T) {
	var s source
	for n := 2; n <= api.MaxStrands; n++ {
		for _, x := range letters(n) {
			checkSameBurau(t, &s, n, []int{x, -x}, nil)
			for _, y := range letters(n) {
				switch distance := max(x, -x) - max(y, -y); {
				case distance < -1 || distance > 1:
					checkSameBurau(t, &s, n, []int{x, y}, []int{y, x})
				case distance != 0 && x*y > 0:
					checkSameBurau(t, &s, n, []int{x, y, x}, []int{y, x, y})
					checkSameBurau(t, &s, n, []int{x, y, -x}, []int{-y, x, y})
				}
			}
		}
	}
}

// P8.2 and P8.3: a word and its inverse one after the other have the identity matrix.
func TestBurauOfInverse(t *testing.T) {
	for _, c := range samples(api.MaxBurau / 2) {
		inverse, _ := Inverse(c.n, c.w)
		w := slices.Concat(c.w, inverse)
		if m := burau(t, c.n, w); !sameMatrix(m, polynomials(plainIdentity(c.n))) {
			t.Errorf("Burau(%d, %v) = %v", c.n, w, m)
		}
	}
}

// P8.2 and P8.3: for t = 1 the matrix maps each strand to its position at the end.
func TestBurauAtOneIsPermutation(t *testing.T) {
	for _, c := range samples(api.MaxBurau) {
		p, _ := Permutation(c.n, c.w)
		for i, line := range burau(t, c.n, c.w) {
			for j, q := range line {
				x, e := laurent.Eval(q, 1)
				if e != api.OK || (x == 1) != (p[i] == j) || x != 0 && x != 1 {
					t.Errorf("Burau(%d, %v) has the value %d, %d at (%d, %d), but the permutation is %v", c.n, c.w, x, e, i, j, p)
				}
			}
		}
	}
}

// P8.3: the elements of each row of every letter, and so of every word, amount to 1.
func TestSumsOfBurauRows(t *testing.T) {
	for _, c := range append(samples(api.MaxBurau), longWords()...) {
		for i, line := range burau(t, c.n, c.w) {
			sum := api.Poly{}
			for _, p := range line {
				sum, _ = laurent.Add(sum, p)
			}
			if !same(sum, poly(0, 1)) {
				t.Errorf("Burau(%d, %v): row %d amounts to %v", c.n, c.w, i, sum)
			}
		}
	}
}

// P8.2 and P8.3: the determinant is -t to the power of the exponent sum.
func TestDeterminantOfBurau(t *testing.T) {
	for _, c := range samples(8) {
		if c.n > polymatrix.MaxSide {
			continue
		}
		k, _ := ExponentSum(c.n, c.w)
		want := poly(k, 1)
		if k%2 != 0 {
			want = poly(k, -1)
		}
		if p, e := polymatrix.Det(burau(t, c.n, c.w)); !same(p, want) || e != api.OK {
			t.Errorf("determinant of Burau(%d, %v) = %v, %d, want %v", c.n, c.w, p, e, want)
		}
	}
}

// Elements of a matrix are polynomials that laurent.Check accepts.
func TestBurauElementsAreAccepted(t *testing.T) {
	for _, c := range append(samples(api.MaxBurau), longWords()...) {
		for _, line := range burau(t, c.n, c.w) {
			for _, p := range line {
				if e := laurent.Check(p); e != api.OK {
					t.Errorf("Burau(%d, %v): %v with error %d of Check", c.n, c.w, p, e)
				}
			}
		}
	}
}
