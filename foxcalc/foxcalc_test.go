package foxcalc

import (
	"math"
	"slices"
	"testing"

	"timbrel/api"
)

// repeat returns k copies of the letters one after the other.
func repeat(k int, letters ...int) []int {
	return slices.Repeat(letters, k)
}

// words returns all words of up to n of the letters, the shortest ones first.
func words(n int, letters ...int) [][]int {
	all := [][]int{nil}
	for begin := 0; n > 0; n-- {
		end := len(all)
		for _, w := range all[begin:end] {
			for _, x := range letters {
				all = append(all, append(slices.Clone(w), x))
			}
		}
		begin = end
	}
	return all
}

// source is a sequence of numbers that look random and are always the same.
type source uint64

func (s *source) below(n int) int {
	*s = *s*6364136223846793005 + 1442695040888963407
	return int(uint64(*s) >> 33 % uint64(n))
}

// word returns a word of n letters up to the given generator.
func (s *source) word(n, generators int) []int {
	var w []int
	for range n {
		x := s.below(generators) + 1
		if s.below(2) == 0 {
			x = -x
		}
		w = append(w, x)
	}
	return w
}

// longWords returns words of many lengths, up to the limit.
func longWords() [][]int {
	var s source
	var all [][]int
	for n := range api.MaxWord + 1 {
		for generators := 1; generators <= api.MaxGenerators; generators++ {
			all = append(all, s.word(n, generators))
		}
	}
	return all
}

// poly returns the polynomial with the given coefficients.
func poly(low int, c ...int) api.Poly {
	return api.Poly{Low: low, C: c}
}

// long returns a polynomial with n coefficients x.
func long(low, n, x int) api.Poly {
	return poly(low, slices.Repeat([]int{x}, n)...)
}

func same(a, b api.Poly) bool {
	return a.Low == b.Low && slices.Equal(a.C, b.C)
}

// terms is a polynomial as a map from exponents to coefficients. It has no coefficients 0.
type terms map[int]int

func termsOf(p api.Poly) terms {
	m := terms{}
	m.add(0, 1, p)
	return m
}

// add adds factor t^shift p.
func (m terms) add(shift, factor int, p api.Poly) {
	for i, x := range p.C {
		k := p.Low + shift + i
		m[k] += factor * x
		if m[k] == 0 {
			delete(m, k)
		}
	}
}

// poly returns the polynomial with these terms.
func (m terms) poly() api.Poly {
	if len(m) == 0 {
		return api.Poly{}
	}
	low, high := math.MaxInt, math.MinInt
	for k := range m {
		low, high = min(low, k), max(high, k)
	}
	p := poly(low)
	for k := low; k <= high; k++ {
		p.C = append(p.C, m[k])
	}
	return p
}

// plainExponent counts the letters.
func plainExponent(w []int) int {
	n := 0
	for _, x := range w {
		if x > 0 {
			n++
		} else {
			n--
		}
	}
	return n
}

// plainDerivative divides a word in the middle and follows the rules of P6.2.
func plainDerivative(w []int, i int) terms {
	switch {
	case len(w) == 1 && w[0] == i:
		return terms{0: 1}
	case len(w) == 1 && w[0] == -i:
		return terms{-1: -1}
	case len(w) <= 1:
		return terms{}
	}
	u, v := w[:len(w)/2], w[len(w)/2:]
	sum := plainDerivative(u, i)
	sum.add(plainExponent(u), 1, plainDerivative(v, i).poly())
	return sum
}

var checkCases = []struct {
	w    []int
	want api.Errno
}{
	{nil, api.OK},
	{[]int{}, api.OK},
	{[]int{1}, api.OK},
	{[]int{-1}, api.OK},
	{[]int{6, -6, 5, -5}, api.OK},
	{repeat(60, 6), api.OK},
	{repeat(60, -6), api.OK},

	{repeat(61, 1), api.ErrTooLarge},
	{repeat(1000, 1, -1), api.ErrTooLarge},

	{[]int{0}, api.ErrArgument},
	{[]int{7}, api.ErrArgument},
	{[]int{-7}, api.ErrArgument},
	{[]int{1, 2, 0}, api.ErrArgument},
	{[]int{7, -7}, api.ErrArgument},
	{append(repeat(59, 1), 7), api.ErrArgument},
	{[]int{math.MaxInt}, api.ErrArgument},
	{[]int{math.MinInt}, api.ErrArgument},
	{[]int{1<<32 + 1}, api.ErrArgument},
	{[]int{1, 1 << 32}, api.ErrArgument},

	// Two errors: the length comes first.
	{repeat(61, 0), api.ErrTooLarge},
	{append(repeat(60, 1), 7), api.ErrTooLarge},
	{append([]int{-7}, repeat(60, 1)...), api.ErrTooLarge},
}

// P6.1: Exponent.
func TestExponent(t *testing.T) {
	for _, c := range []struct {
		w    []int
		want int
	}{
		{nil, 0},
		{[]int{}, 0},
		{[]int{1}, 1},
		{[]int{-1}, -1},
		{[]int{6}, 1},
		{[]int{-6}, -1},
		{[]int{1, -1}, 0},
		{[]int{1, 2, 3}, 3},
		{[]int{1, -2, -3}, -1},
		{[]int{1, 2, -1}, 1},
		{[]int{-4, 5, -4, -4}, -2},
		{[]int{1, 1, -1, 1}, 2},
		{repeat(60, 6), 60},
		{repeat(60, -1), -60},
		{repeat(20, 2, -3, 2), 20},
		{append(repeat(31, -5), repeat(29, 4)...), -2},
	} {
		if n, e := Exponent(c.w); n != c.want || e != api.OK {
			t.Errorf("Exponent(%v) = %d, %d, want %d", c.w, n, e, c.want)
		}
	}
}

// P6.1: the number of positive letters minus the number of negative ones.
func TestExponentFollowsTheDefinition(t *testing.T) {
	for _, w := range append(words(4, 1, -1, 3, -3, 6, -6), longWords()...) {
		if n, e := Exponent(w); n != plainExponent(w) || e != api.OK {
			t.Errorf("Exponent(%v) = %d, %d, want %d", w, n, e, plainExponent(w))
		}
	}
}

// P6.1: the error of freegroup.Check.
func TestErrorsOfExponent(t *testing.T) {
	for _, c := range checkCases {
		if n, e := Exponent(c.w); e != c.want || e != api.OK && n != 0 {
			t.Errorf("Exponent(%v) = %d, %d, want error %d", c.w, n, e, c.want)
		}
	}
}

// P6.2: Derivative.
func TestDerivative(t *testing.T) {
	for _, c := range []struct {
		w    []int
		i    int
		want api.Poly
	}{
		// The example.
		{[]int{1, 2, -1}, 1, poly(0, 1, -1)},
		{[]int{1, 2, -1}, 2, poly(1, 1)},
		{[]int{1, 2, -1}, 3, poly(0)},

		// The empty word and single letters.
		{nil, 1, poly(0)},
		{[]int{}, 6, poly(0)},
		{[]int{1}, 1, poly(0, 1)},
		{[]int{6}, 6, poly(0, 1)},
		{[]int{-1}, 1, poly(-1, -1)},
		{[]int{-6}, 6, poly(-1, -1)},
		{[]int{1}, 2, poly(0)},
		{[]int{-2}, 1, poly(0)},
		{[]int{5}, 6, poly(0)},

		// Letters in front shift a term, letters behind it do not.
		{[]int{2, 3, 1}, 1, poly(2, 1)},
		{[]int{-2, -3, 1}, 1, poly(-2, 1)},
		{[]int{2, 3, -1}, 1, poly(1, -1)},
		{[]int{-2, -3, -1}, 1, poly(-3, -1)},
		{[]int{1, 2, 3}, 1, poly(0, 1)},
		{[]int{-1, 2, 3}, 1, poly(-1, -1)},
		{[]int{2, -3, 1}, 1, poly(0, 1)},

		// Sums with gaps, and terms that come together or cancel.
		{[]int{1, 1, 1}, 1, poly(0, 1, 1, 1)},
		{[]int{-1, -1, -1}, 1, poly(-3, -1, -1, -1)},
		{[]int{1, 2, 2, 1}, 1, poly(0, 1, 0, 0, 1)},
		{[]int{1, -2, 1, -2, 1}, 1, poly(0, 3)},
		{[]int{-1, 2, -1, 2}, 1, poly(-1, -2)},
		{[]int{2, 1, 3, -1, -1}, 1, poly(2, -1)},
		{[]int{2, 3, -1, 2, 1}, 1, poly(1, -1, 1)},
		{[]int{1, 2, -1, -2}, 1, poly(0, 1, -1)},
		{[]int{1, 2, -1, -2}, 2, poly(0, -1, 1)},
		{[]int{1, 2, 1, -2, -1, -2}, 1, poly(0, 1, -1, 1)},
		{[]int{1, 2, 1, -2, -1, -2}, 2, poly(0, -1, 1, -1)},

		// Words that are not reduced.
		{[]int{1, -1}, 1, poly(0)},
		{[]int{-1, 1}, 1, poly(0)},
		{[]int{2, -2, 1}, 1, poly(0, 1)},
		{[]int{3, -1, 1, -3}, 1, poly(0)},
		{[]int{1, 2, -2, 1}, 1, poly(0, 1, 1)},

		// Words of MaxWord letters.
		{repeat(60, 1), 1, long(0, 60, 1)},
		{repeat(60, -6), 6, long(-60, 60, -1)},
		{repeat(60, 1), 2, poly(0)},
		{repeat(30, 1, -2), 1, poly(0, 30)},
		{repeat(30, 1, -2), 2, poly(0, -30)},
		{repeat(30, -4, 3), 4, poly(-1, -30)},
		{repeat(30, 1, -1), 1, poly(0)},
		{append(repeat(59, 2), 1), 1, poly(59, 1)},
		{append(repeat(59, -2), -1), 1, poly(-60, -1)},
		{append(repeat(30, 1), repeat(30, -1)...), 1, poly(0)},
		{append(repeat(30, 1), repeat(30, -2)...), 1, long(0, 30, 1)},
		{append(repeat(30, 1), repeat(30, -2)...), 2, long(0, 30, -1)},
		{append(repeat(29, -1), repeat(31, 2)...), 2, long(-29, 31, 1)},
	} {
		if p, e := Derivative(c.w, c.i); !same(p, c.want) || e != api.OK {
			t.Errorf("Derivative(%v, %d) = %v, %d, want %v", c.w, c.i, p, e, c.want)
		}
	}
}

// P6.2: the rules of the definition, for all generators.
func TestDerivativeFollowsTheDefinition(t *testing.T) {
	for _, w := range append(words(5, 1, -1, 2, -2, 6), longWords()...) {
		for i := 1; i <= api.MaxGenerators; i++ {
			want := plainDerivative(w, i).poly()
			if p, e := Derivative(w, i); !same(p, want) || e != api.OK {
				t.Errorf("Derivative(%v, %d) = %v, %d, want %v", w, i, p, e, want)
			}
		}
	}
}

// P6.2: D(uv) = D(u) + t^e D(v), wherever a word is divided.
func TestDerivativeOfProduct(t *testing.T) {
	for _, w := range longWords() {
		for k := range len(w) + 1 {
			shift, _ := Exponent(w[:k])
			for i := 1; i <= api.MaxGenerators; i++ {
				whole, _ := Derivative(w, i)
				front, _ := Derivative(w[:k], i)
				back, _ := Derivative(w[k:], i)
				sum := termsOf(front)
				sum.add(shift, 1, back)
				if !same(whole, sum.poly()) {
					t.Errorf("Derivative(%v, %d) = %v, but %v when divided at %d", w, i, whole, sum.poly(), k)
				}
			}
		}
	}
}

// P6.2: the derivatives with respect to all generators, times t - 1, amount to t^e - 1 for a word with exponent e.
func TestDerivativesDetermineTheExponent(t *testing.T) {
	for _, w := range longWords() {
		sum := terms{}
		for i := 1; i <= api.MaxGenerators; i++ {
			p, _ := Derivative(w, i)
			sum.add(1, 1, p)
			sum.add(0, -1, p)
		}
		want := termsOf(poly(0, -1))
		want.add(plainExponent(w), 1, poly(0, 1))
		if !same(sum.poly(), want.poly()) {
			t.Errorf("derivatives of %v: %v, want %v", w, sum.poly(), want.poly())
		}
	}
}

// P6.2: a pair of inverse letters changes no derivative.
func TestDerivativeOfElement(t *testing.T) {
	for _, w := range words(3, 1, -1, 2, -2) {
		for at := range len(w) + 1 {
			for _, x := range []int{1, -1, 2, -2, 3, -3} {
				v := slices.Insert(slices.Clone(w), at, x, -x)
				for i := 1; i <= 3; i++ {
					p, _ := Derivative(w, i)
					if q, e := Derivative(v, i); !same(p, q) || e != api.OK {
						t.Errorf("Derivative(%v, %d) = %v, %d, but %v for %v", v, i, q, e, p, w)
					}
				}
			}
		}
	}
}

// anyGenerators returns generators with and without errors.
func anyGenerators() []int {
	return []int{math.MinInt, math.MinInt + 1, -7, -6, -1, 0, 1, 2, 6, 7, 1<<32 + 1, math.MaxInt}
}

// P6.2: the error of freegroup.Check comes first, then that of the generator.
func TestErrorsOfDerivative(t *testing.T) {
	for _, c := range checkCases {
		for _, i := range anyGenerators() {
			want := c.want
			if want == api.OK && (i < 1 || i > 6) {
				want = api.ErrArgument
			}
			if p, e := Derivative(c.w, i); e != want || e != api.OK && !same(p, api.Poly{}) {
				t.Errorf("Derivative(%v, %d) = %v, %d, want error %d", c.w, i, p, e, want)
			}
		}
	}
}
