package alexander

import (
	"slices"
	"testing"

	"timbrel/api"
	"timbrel/laurent"
)

// P14.1: Polynomial. These are the polynomials in tables of knots and links.
func TestPolynomial(t *testing.T) {
	for _, c := range []struct {
		name string
		n    int
		w    []int
		want api.Poly
	}{
		{"circle", 1, nil, poly(1)},
		{"circle", 1, []int{}, poly(1)},
		{"circle", 2, []int{1}, poly(1)},
		{"circle", 2, []int{-1}, poly(1)},
		{"circle", 3, []int{1, -2}, poly(1)},
		{"circle", 6, []int{1, -2, 3, -4, 5}, poly(1)},
		{"two circles", 2, nil, poly()},
		{"two circles", 2, []int{1, -1}, poly()},
		{"two circles", 3, []int{-1}, poly()},
		{"six circles", 6, nil, poly()},
		{"Hopf link", 2, []int{1, 1}, poly(-1, 1)},
		{"Hopf link", 2, []int{-1, -1}, poly(-1, 1)},
		{"trefoil", 2, []int{1, 1, 1}, poly(1, -1, 1)},
		{"trefoil", 2, []int{-1, -1, -1}, poly(1, -1, 1)},
		{"trefoil", 3, []int{1, 2, 1, 2}, poly(1, -1, 1)},
		{"trefoil and circle", 3, []int{1, 1, 1}, poly()},
		{"trefoil and trefoil", 4, []int{1, 3, 1, 3, 1, 3}, poly()},
		{"figure eight", 3, []int{1, -2, 1, -2}, poly(1, -3, 1)},
		{"5_1", 2, repeat(5, 1), poly(1, -1, 1, -1, 1)},
		{"5_2", 3, []int{1, 1, 1, 2, -1, 2}, poly(2, -3, 2)},
		{"Whitehead link", 3, []int{1, -2, 1, -2, -2}, poly(-1, 3, -3, 1)},
		{"6_1", 4, []int{1, 1, 2, -1, -3, 2, -3}, poly(2, -5, 2)},
		{"6_2", 3, []int{-1, -1, -1, 2, -1, 2}, poly(1, -3, 3, -3, 1)},
		{"6_3", 3, []int{-1, -1, 2, -1, 2, 2}, poly(1, -3, 5, -3, 1)},
		{"Borromean rings", 3, repeat(3, 1, -2), poly(1, -4, 6, -4, 1)},
		{"7_4", 4, []int{1, 1, 2, -1, 2, 2, 3, -2, 3}, poly(4, -7, 4)},
		{"7_7", 4, []int{1, -2, 1, -2, 3, -2, 3}, poly(1, -5, 9, -5, 1)},
		{"8_19", 3, repeat(4, 1, 2), poly(1, -1, 0, 1, 0, -1, 1)},
		{"8_20", 3, []int{1, 1, 1, -2, -1, -1, -1, -2}, poly(1, -2, 3, -2, 1)},
		{"10_124", 3, repeat(5, 1, 2), poly(1, -1, 0, 1, -1, 1, 0, -1, 1)},
		{"two trefoils", 3, []int{1, 1, 1, 2, 2, 2}, poly(1, -2, 3, -2, 1)},

		// Letters from MaxBurau to MaxAlexander.
		{"16 crossings", 2, repeat(16, 1), poly(repeat(8, -1, 1)...)},
		{"17 crossings", 2, repeat(17, -1), poly(append(repeat(8, 1, -1), 1)...)},
		{"20 crossings", 2, repeat(20, 1), poly(repeat(10, -1, 1)...)},
		{"20 crossings", 2, repeat(20, -1), poly(repeat(10, -1, 1)...)},
		{"two circles", 2, repeat(10, 1, -1), poly()},
		{"three circles", 3, repeat(10, 1, -1), poly()},
		{"circle", 6, append(repeat(7, 2, -2), 1, 2, 3, 4, 5), poly(1)},

		// Coefficients in the matrix that are too large for package polymatrix.
		{"turk's head", 3, repeat(10, 1, -2), poly(1, -11, 55, -174, 409, -777, 1243, -1716, 2073, -2207, 2073, -1716, 1243, -777, 409, -174, 55, -11, 1)},
	} {
		if p, e := Polynomial(c.n, c.w); e != api.OK || !same(p, c.want) {
			t.Errorf("%s: Polynomial(%d, %v) = %v, %d, want %v", c.name, c.n, c.w, p, e, c.want)
		}
	}
}

// P14.1: the normalized determinant of the identity matrix minus a part of the Burau matrix.
func TestPolynomialFollowsTheDefinition(t *testing.T) {
	for _, c := range append(samples(api.MaxAlexander), longWords()...) {
		want := plainPolynomial(c.n, c.w)
		if p := polynomial(t, c.n, c.w); !same(p, want) {
			t.Errorf("Polynomial(%d, %v) = %v, want %v", c.n, c.w, p, want)
		}
	}
}

// P14.1: the same for all braids whose closed braids are the same link.
func TestPolynomialOfSameLink(t *testing.T) {
	var s source
	for _, c := range samples(14) {
		want := polynomial(t, c.n, c.w)
		d := c
		for range 30 {
			d = s.moved(d)
			if p := polynomial(t, d.n, d.w); !same(p, want) {
				t.Fatalf("Polynomial(%d, %v) = %v, but of (%d, %v) it is %v", d.n, d.w, p, c.n, c.w, want)
			}
		}
	}
}

// P14.1: the mirror image and the link with the opposite orientation have the same polynomial.
func TestPolynomialOfMirrorImage(t *testing.T) {
	for _, c := range append(samples(api.MaxAlexander), longWords()...) {
		opposite, backward := slices.Clone(c.w), slices.Clone(c.w)
		for i := range opposite {
			opposite[i] = -opposite[i]
		}
		slices.Reverse(backward)
		want := polynomial(t, c.n, c.w)
		for _, w := range [][]int{opposite, backward} {
			if p := polynomial(t, c.n, w); !same(p, want) {
				t.Errorf("Polynomial(%d, %v) = %v, but of %v it is %v", c.n, w, p, c.w, want)
			}
		}
	}
}

// P14.1: backwards the coefficients are the same, or the negative ones for an even number of components.
func TestPolynomialIsSymmetric(t *testing.T) {
	for _, c := range append(samples(api.MaxAlexander), longWords()...) {
		p := polynomial(t, c.n, c.w)
		want := slices.Clone(p.C)
		slices.Reverse(want)
		if components(c.n, c.w)%2 == 0 {
			for i := range want {
				want[i] = -want[i]
			}
		}
		if !slices.Equal(p.C, want) {
			t.Errorf("Polynomial(%d, %v) = %v, backwards %v", c.n, c.w, p, want)
		}
	}
}

// P14.1: for t = 1 the value is 1 or -1 for a knot, and 0 for more components.
func TestPolynomialAtOne(t *testing.T) {
	for _, c := range append(samples(api.MaxAlexander), longWords()...) {
		p := polynomial(t, c.n, c.w)
		want := 1
		if components(c.n, c.w) > 1 {
			want = 0
		}
		if x, e := laurent.Eval(p, 1); e != api.OK || plainIndex(x) != want {
			t.Errorf("Polynomial(%d, %v) = %v has the value %d, %d, want %d", c.n, c.w, p, x, e, want)
		}
	}
}

// P14.1: a further strand without letters makes the polynomial 0.
func TestPolynomialOfFurtherStrand(t *testing.T) {
	for _, c := range samples(api.MaxAlexander) {
		if c.n == api.MaxStrands {
			continue
		}
		for _, w := range [][]int{c.w, shifted(c.w, 1)} {
			if p := polynomial(t, c.n+1, w); !same(p, poly()) {
				t.Errorf("Polynomial(%d, %v) = %v", c.n+1, w, p)
			}
		}
	}
}

// shifted returns the letters with the generators moved by a number of positions.
func shifted(w []int, by int) []int {
	var l []int
	for _, x := range w {
		l = append(l, x+by*x/plainIndex(x))
	}
	return l
}

// P14.1: the polynomial of two links that are connected to one is the product. They share a strand.
func TestPolynomialOfConnectedLinks(t *testing.T) {
	var s source
	for n := 2; n < api.MaxStrands; n++ {
		for k := 2; n+k-1 <= api.MaxStrands; k++ {
			for range 20 {
				a, b := s.word(n, s.below(11)), s.word(k, s.below(11))
				want := termsOf(polynomial(t, n, a)).times(termsOf(polynomial(t, k, b))).normal()
				w := slices.Concat(a, shifted(b, n-1))
				if p := polynomial(t, n+k-1, w); !same(p, want) {
					t.Errorf("Polynomial(%d, %v) = %v, want %v", n+k-1, w, p, want)
				}
			}
		}
	}
	want := terms{0: 1}
	for range 5 {
		want = want.times(terms{0: -1, 1: 1, 2: -1, 3: 1})
	}
	w := slices.Concat(repeat(4, 1), repeat(4, -2), repeat(4, 3), repeat(4, -4), repeat(4, 5))
	if p := polynomial(t, 6, w); !same(p, want.normal()) {
		t.Errorf("Polynomial(6, %v) = %v, want %v", w, p, want.normal())
	}
}

// P14.1: torus links of p strands and q turns, by the known form of their polynomials: (1 - t^p) (1 - t^q) times the polynomial is (1 - t) (1 - t^(p q / d))^d, where d is the greatest common divisor of p and q.
func TestPolynomialOfTorusLinks(t *testing.T) {
	for p := 2; p <= api.MaxStrands; p++ {
		var turn []int
		for i := 1; i < p; i++ {
			turn = append(turn, i)
		}
		for q := 1; q*len(turn) <= api.MaxAlexander; q++ {
			d := components(p, repeat(q, turn...))
			want := terms{0: 1, 1: -1}
			for range d {
				want = want.times(terms{0: 1, p * q / d: -1})
			}
			got := polynomial(t, p, repeat(q, turn...))
			product := termsOf(got).times(terms{0: 1, p: -1}).times(terms{0: 1, q: -1})
			if got.Low != 0 || !same(product.normal(), want.normal()) {
				t.Errorf("torus link (%d, %d): %v", p, q, got)
			}
		}
	}
}

// centered returns the terms of a normalized polynomial times a power of t and a sign, such that the exponents are symmetric. All exponents are doubled.
func centered(p api.Poly, sign int) terms {
	m := terms{}
	for i, x := range p.C {
		m[2*i-len(p.C)+1] = sign * x
	}
	return m
}

// fit reports whether there are signs for which the centered polynomials fulfil a - b = (t^(1/2) - t^(-1/2)) c.
func fit(a, b, c api.Poly) bool {
	right := centered(c, 1).times(terms{1: 1, -1: -1})
	for _, signs := range [][2]int{{1, 1}, {1, -1}, {-1, 1}, {-1, -1}} {
		difference := centered(a, signs[0]).plus(centered(b, signs[1])).plus(right)
		if same(difference.normal(), poly()) {
			return true
		}
	}
	return false
}

// P14.1: the polynomials of words that differ in the sign of one letter fit that of the word without the letter.
func TestPolynomialOfOppositeLetters(t *testing.T) {
	for _, c := range samples(12) {
		for k, x := range c.w {
			i := plainIndex(x)
			without := slices.Concat(c.w[:k], c.w[k+1:])
			positive, negative := slices.Clone(c.w), slices.Clone(c.w)
			positive[k], negative[k] = i, -i
			if !fit(polynomial(t, c.n, positive), polynomial(t, c.n, negative), polynomial(t, c.n, without)) {
				t.Errorf("on %d strands: the polynomials of %v, %v and %v do not fit", c.n, positive, negative, without)
			}
		}
	}
}

// P14.1: the errors of braid.Check, then ErrTooLarge if there are more than MaxAlexander letters.
func TestErrorsOfPolynomial(t *testing.T) {
	for _, c := range errorCases {
		p, e := Polynomial(c.n, c.w)
		if e != c.want || e != api.OK && (p.Low != 0 || len(p.C) != 0) {
			t.Errorf("Polynomial(%d, %v) = %v, %d, want error %d", c.n, c.w, p, e, c.want)
		}
	}
}
