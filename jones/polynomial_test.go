package jones

import (
	"slices"
	"testing"

	"timbrel/api"
	"timbrel/laurent"
)

// P13.2: Polynomial. With t for A^-4, these are the polynomials in tables of knots and links.
func TestPolynomial(t *testing.T) {
	for _, c := range []struct {
		name string
		n    int
		w    []int
		want terms
	}{
		{"circle", 1, nil, terms{0: 1}},
		{"circle", 2, []int{1}, terms{0: 1}},
		{"circle", 2, []int{-1}, terms{0: 1}},
		{"circle", 3, []int{1, -2}, terms{0: 1}},
		{"circle", 6, []int{1, -2, 3, -4, 5}, terms{0: 1}},
		{"two circles", 2, nil, terms{2: -1, -2: -1}},
		{"two circles", 2, []int{1, -1}, terms{2: -1, -2: -1}},
		{"two circles", 3, []int{-1}, terms{2: -1, -2: -1}},
		{"three circles", 3, nil, terms{4: 1, 0: 2, -4: 1}},
		{"Hopf link", 2, []int{1, 1}, terms{-2: -1, -10: -1}},
		{"Hopf link", 2, []int{-1, -1}, terms{2: -1, 10: -1}},
		{"trefoil", 2, []int{1, 1, 1}, terms{-4: 1, -12: 1, -16: -1}},
		{"trefoil", 3, []int{1, 2, 1, 2}, terms{-4: 1, -12: 1, -16: -1}},
		{"trefoil", 2, []int{-1, -1, -1}, terms{4: 1, 12: 1, 16: -1}},
		{"figure eight", 3, []int{1, -2, 1, -2}, terms{8: 1, 4: -1, 0: 1, -4: -1, -8: 1}},
		{"5_1", 2, repeat(5, 1), terms{-8: 1, -16: 1, -20: -1, -24: 1, -28: -1}},
		{"5_2", 3, []int{1, 1, 1, 2, -1, 2}, terms{-4: 1, -8: -1, -12: 2, -16: -1, -20: 1, -24: -1}},
		{"6_2", 3, []int{-1, -1, -1, 2, -1, 2}, terms{-4: 1, 0: -1, 4: 2, 8: -2, 12: 2, 16: -2, 20: 1}},
		{"6_3", 3, []int{-1, -1, 2, -1, 2, 2}, terms{-12: -1, -8: 2, -4: -2, 0: 3, 4: -2, 8: 2, 12: -1}},
		{"8_19", 3, repeat(4, 1, 2), terms{-12: 1, -20: 1, -32: -1}},
		{"10_124", 3, repeat(5, 1, 2), terms{-16: 1, -24: 1, -40: -1}},
		{"Borromean rings", 3, repeat(3, 1, -2), terms{-12: -1, -8: 3, -4: -2, 0: 4, 4: -2, 8: 3, 12: -1}},
		{"two trefoils", 3, []int{1, 1, 1, 2, 2, 2}, terms{-8: 1, -16: 2, -20: -2, -24: 1, -28: -2, -32: 1}},
	} {
		if p, e := Polynomial(c.n, c.w); e != api.OK || !same(p, c.want.poly()) {
			t.Errorf("%s: Polynomial(%d, %v) = %v, %d, want %v", c.name, c.n, c.w, p, e, c.want)
		}
	}
}

// P13.2: the bracket times (-A^3)^-e.
func TestPolynomialFollowsTheDefinition(t *testing.T) {
	for _, c := range append(samples(api.MaxBracket), longWords()...) {
		want := termsOf(bracket(t, c.n, c.w))
		sum := plainExponentSum(c.w)
		for range plainIndex(sum) {
			want = want.times(-1, -3*sum/plainIndex(sum))
		}
		if p := polynomial(t, c.n, c.w); !same(p, want.poly()) {
			t.Errorf("Polynomial(%d, %v) = %v, want %v", c.n, c.w, p, want)
		}
	}
}

// moved returns a braid whose closed braid is the same link, or the same braid if the move that is tried is not possible.
func (s *source) moved(c braidCase) braidCase {
	n, w := c.n, slices.Clone(c.w)
	switch s.below(6) {
	case 0: // the first letter goes to the end
		if len(w) > 0 {
			w = append(w[1:], w[0])
		}
	case 1: // a pair of inverse letters is inserted
		if n > 1 {
			x := s.word(n, 1)[0]
			w = slices.Insert(w, s.below(len(w)+1), x, -x)
		}
	case 2: // a strand is added
		w = append(w, []int{n, -n}[s.below(2)])
		n++
	case 3: // the last strand is removed
		if len(w) > 0 && plainIndex(w[len(w)-1]) == n-1 && !hasGenerator(w[:len(w)-1], n-1) {
			w = w[:len(w)-1]
			n--
		}
	default: // a relation is applied somewhere
		w = s.related(n, w)
	}
	if n > api.MaxStrands || len(w) > api.MaxBracket {
		return c
	}
	return braidCase{n, w}
}

func hasGenerator(w []int, i int) bool {
	return slices.Contains(w, i) || slices.Contains(w, -i)
}

// related replaces a part of a word that is one side of a relation by the other side, if there is such a part.
func (s *source) related(n int, w []int) []int {
	all := relations()
	first := s.below(len(all))
	for _, r := range append(all[first:], all[:first]...) {
		for at := range w {
			end := at + len(r.a)
			if r.n == n && end <= len(w) && slices.Equal(w[at:end], r.a) {
				return slices.Concat(w[:at], r.b, w[end:])
			}
		}
	}
	return w
}

// P13.2: the same for all braids whose closed braids are the same link.
func TestPolynomialOfSameLink(t *testing.T) {
	var s source
	for _, c := range samples(8) {
		want := polynomial(t, c.n, c.w)
		d := c
		for range 30 {
			d = s.moved(d)
			if p := polynomial(t, d.n, d.w); !same(p, want) {
				t.Fatalf("Polynomial(%d, %v) = %v, but of (%d, %v) it is %v", d.n, d.w, p, c.n, c.w, want)
			}
		}
	}
}

// P13.2: A^4 and -A^-4 times the polynomials of words that differ in the sign of one letter amount to A^-2 - A^2 times the polynomial without that letter.
func TestPolynomialOfOppositeLetters(t *testing.T) {
	for _, c := range samples(8) {
		for k, x := range c.w {
			i := plainIndex(x)
			without := slices.Concat(c.w[:k], c.w[k+1:])
			positive, negative := slices.Clone(c.w), slices.Clone(c.w)
			positive[k], negative[k] = i, -i
			got := termsOf(polynomial(t, c.n, positive)).times(1, 4).plus(termsOf(polynomial(t, c.n, negative)).times(-1, -4))
			p := termsOf(polynomial(t, c.n, without))
			if want := p.times(1, -2).plus(p.times(-1, 2)); !same(got.poly(), want.poly()) {
				t.Errorf("on %d strands: the polynomials of %v, %v and %v do not fit", c.n, positive, negative, without)
			}
		}
	}
}

// staircase returns the letters 1 to n - 1.
func staircase(n int) []int {
	var w []int
	for i := 1; i < n; i++ {
		w = append(w, i)
	}
	return w
}

// P13.2: torus knots, by the known form of their polynomials: with t for A^-4, 1 - t^2 times the polynomial is t^((p-1)(q-1)/2) (1 - t^(p+1) - t^(q+1) + t^(p+q)).
func TestPolynomialOfTorusKnots(t *testing.T) {
	for _, k := range [][2]int{{2, 1}, {2, 3}, {2, 5}, {2, 7}, {2, 9}, {2, 11}, {3, 1}, {3, 2}, {3, 4}, {3, 5}, {4, 1}, {4, 3}, {5, 1}, {5, 2}, {5, 3}, {6, 1}} {
		p, q := k[0], k[1]
		got := termsOf(polynomial(t, p, repeat(q, staircase(p)...)))
		got = got.plus(got.times(-1, -8))
		want := terms{0: 1}
		for _, term := range [][2]int{{p + 1, -1}, {q + 1, -1}, {p + q, 1}} {
			want = want.plus(terms{-4 * term[0]: term[1]})
		}
		want = want.times(1, -2*(p-1)*(q-1))
		if !same(got.poly(), want.poly()) {
			t.Errorf("torus knot (%d, %d): %v, want %v", p, q, got, want)
		}
	}
}

// P13.2: for A = 1 the value is -2 for each component but one.
func TestPolynomialAtOne(t *testing.T) {
	for _, c := range append(samples(api.MaxBracket), longWords()...) {
		want := 1
		for range components(c.n, c.w) - 1 {
			want *= -2
		}
		p := polynomial(t, c.n, c.w)
		if x, e := laurent.Eval(p, 1); e != api.OK || x != want {
			t.Errorf("Polynomial(%d, %v) = %v has the value %d, %d, want %d", c.n, c.w, p, x, e, want)
		}
	}
}

// P13.2: the errors of Bracket.
func TestErrorsOfPolynomial(t *testing.T) {
	for _, c := range errorCases {
		p, e := Polynomial(c.n, c.w)
		if e != c.want || e != api.OK && (p.Low != 0 || len(p.C) != 0) {
			t.Errorf("Polynomial(%d, %v) = %v, %d, want error %d", c.n, c.w, p, e, c.want)
		}
	}
}
