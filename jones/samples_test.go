package jones

import (
	"maps"
	"math"
	"slices"
	"testing"

	"timbrel/api"
)

// repeat returns k copies of the letters one after the other.
func repeat(k int, letters ...int) []int {
	return slices.Repeat(letters, k)
}

// letters returns all letters of braid words on n strands.
func letters(n int) []int {
	var all []int
	for i := 1; i < n; i++ {
		all = append(all, i, -i)
	}
	return all
}

// words returns all words on n strands of up to length letters, the shortest ones first.
func words(n, length int) [][]int {
	all := [][]int{nil}
	for begin := 0; length > 0; length-- {
		end := len(all)
		for _, w := range all[begin:end] {
			for _, x := range letters(n) {
				all = append(all, append(slices.Clone(w), x))
			}
		}
		begin = end
	}
	return all
}

// source is a sequence of numbers that look random and are always the same.
type source uint64

func (s *source) below(n int) int {
	*s = *s*6364136223846793005 + 1442695040888963407
	return int(uint64(*s) >> 33 % uint64(n))
}

// word returns a word of the given length on n strands, n > 1.
func (s *source) word(n, length int) []int {
	var w []int
	for range length {
		w = append(w, letters(n)[s.below(2*n-2)])
	}
	return w
}

// braidCase is a word on n strands.
type braidCase struct {
	n int
	w []int
}

// samples returns short words and longer ones up to the given length, on all numbers of strands.
func samples(length int) []braidCase {
	var s source
	all := []braidCase{{1, nil}}
	for n := 2; n <= api.MaxStrands; n++ {
		for _, w := range words(n, 2) {
			all = append(all, braidCase{n, w})
		}
		for k := 3; k <= length; k++ {
			for range 4 {
				all = append(all, braidCase{n, s.word(n, k)})
			}
		}
	}
	return all
}

// terms is a polynomial as a map from exponents to coefficients.
type terms map[int]int

// times returns the product with a coefficient times a power of A.
func (m terms) times(coefficient, exponent int) terms {
	product := terms{}
	for k, x := range m {
		product[k+exponent] = coefficient * x
	}
	return product
}

// plus returns the sum of two polynomials.
func (m terms) plus(o terms) terms {
	sum := maps.Clone(m)
	for k, x := range o {
		sum[k] += x
	}
	return sum
}

// ofLoops multiplies by -A^2 - A^-2 for each loop.
func (m terms) ofLoops(loops int) terms {
	for range loops {
		m = m.times(-1, 2).plus(m.times(-1, -2))
	}
	return m
}

// poly returns the polynomial with these terms.
func (m terms) poly() api.Poly {
	m = maps.Clone(m)
	maps.DeleteFunc(m, func(_, x int) bool { return x == 0 })
	if len(m) == 0 {
		return api.Poly{}
	}
	exponents := slices.Sorted(maps.Keys(m))
	p := api.Poly{Low: exponents[0]}
	for k := p.Low; k <= exponents[len(exponents)-1]; k++ {
		p.C = append(p.C, m[k])
	}
	return p
}

func termsOf(p api.Poly) terms {
	m := terms{}
	for i, x := range p.C {
		m[p.Low+i] = x
	}
	return m
}

func same(a, b api.Poly) bool {
	return a.Low == b.Low && slices.Equal(a.C, b.C)
}

// groups is a partition of points: each point leads to another one of its group, or to itself.
type groups []int

func newGroups(points int) groups {
	var g groups
	for i := range points {
		g = append(g, i)
	}
	return g
}

func (g groups) label(i int) int {
	for g[i] != i {
		i = g[i]
	}
	return i
}

func (g groups) join(i, k int) {
	g[g.label(i)] = g.label(k)
}

// count returns the number of groups.
func (g groups) count() int {
	count := 0
	for i, x := range g {
		if x == i {
			count++
		}
	}
	return count
}

// plainIndex returns the number of the generator of a letter.
func plainIndex(x int) int {
	if x < 0 {
		return -x
	}
	return x
}

// takesGenerator reports whether a choice takes the generator for the letter at a place.
func takesGenerator(choice, place int) bool {
	return choice>>place&1 == 1
}

// plainLoops returns the number of closed loops of a choice as the number of connected parts. There are n points above each letter, and the points below the last letter are those above the first one.
func plainLoops(n int, w []int, choice int) int {
	g := newGroups(n * max(len(w), 1))
	for k, x := range w {
		above, below := n*k, n*((k+1)%len(w))
		i := plainIndex(x)
		for j := range n {
			if !takesGenerator(choice, k) || j != i-1 && j != i {
				g.join(above+j, below+j)
			}
		}
		if takesGenerator(choice, k) {
			g.join(above+i-1, above+i)
			g.join(below+i-1, below+i)
		}
	}
	return g.count()
}

// plainBracket computes the bracket as the chapter states it, from one choice after another.
func plainBracket(n int, w []int) terms {
	// How many choices have each exponent in their weight and each number of loops.
	counts := map[[2]int]int{}
	for choice := range 1 << len(w) {
		exponent := 0
		for k, x := range w {
			if takesGenerator(choice, k) == (x < 0) {
				exponent++
			} else {
				exponent--
			}
		}
		counts[[2]int{exponent, plainLoops(n, w, choice)}]++
	}
	sum := terms{}
	for c, count := range counts {
		sum = sum.plus(terms{c[0]: count}.ofLoops(c[1] - 1))
	}
	return sum
}

func plainExponentSum(w []int) int {
	sum := 0
	for _, x := range w {
		sum += x / plainIndex(x)
	}
	return sum
}

// components returns the number of components of a closed braid.
func components(n int, w []int) int {
	strands := newGroups(n)
	for _, x := range w {
		i := plainIndex(x)
		strands[i-1], strands[i] = strands[i], strands[i-1]
	}
	g := newGroups(n)
	for i, k := range strands {
		g.join(i, k)
	}
	return g.count()
}

// bracket returns the bracket of a word that has no error.
func bracket(t *testing.T, n int, w []int) api.Poly {
	t.Helper()
	p, e := Bracket(n, w)
	if e != api.OK {
		t.Fatalf("Bracket(%d, %v) = %v, %d", n, w, p, e)
	}
	return p
}

// polynomial returns the polynomial of a word that has no error.
func polynomial(t *testing.T, n int, w []int) api.Poly {
	t.Helper()
	p, e := Polynomial(n, w)
	if e != api.OK {
		t.Fatalf("Polynomial(%d, %v) = %v, %d", n, w, p, e)
	}
	return p
}

// relation is a pair of words that are equal as braids.
type relation struct {
	n    int
	a, b []int
}

// relations returns the relations of all letters, and the pairs of inverse letters.
func relations() []relation {
	var all []relation
	for n := 2; n <= api.MaxStrands; n++ {
		for _, x := range letters(n) {
			all = append(all, relation{n, []int{x, -x}, nil})
			for _, y := range letters(n) {
				switch distance := plainIndex(x) - plainIndex(y); {
				case distance < -1 || distance > 1:
					all = append(all, relation{n, []int{x, y}, []int{y, x}})
				case distance != 0 && x*y > 0:
					all = append(all, relation{n, []int{x, y, x}, []int{y, x, y}})
					all = append(all, relation{n, []int{x, y, -x}, []int{-y, x, y}})
				}
			}
		}
	}
	return all
}

// errorCases are words with errors, and words at the limits without one.
var errorCases = []struct {
	n    int
	w    []int
	want api.Errno
}{
	{1, nil, api.OK},
	{6, nil, api.OK},
	{2, repeat(12, 1), api.OK},
	{2, repeat(6, 1, -1), api.OK},
	{6, repeat(12, -5), api.OK},

	// The number of strands.
	{0, nil, api.ErrArgument},
	{-1, nil, api.ErrArgument},
	{7, nil, api.ErrArgument},
	{7, []int{1}, api.ErrArgument},
	{math.MinInt, []int{1}, api.ErrArgument},
	{math.MaxInt, []int{1}, api.ErrArgument},
	{1<<32 + 2, []int{1}, api.ErrArgument},

	// More than MaxBraid letters.
	{1, repeat(31, 1), api.ErrTooLarge},
	{2, repeat(31, 1), api.ErrTooLarge},
	{6, repeat(500, 1, -1), api.ErrTooLarge},

	// Letters.
	{1, []int{1}, api.ErrMalformed},
	{1, []int{0}, api.ErrMalformed},
	{2, []int{0}, api.ErrMalformed},
	{2, []int{2}, api.ErrMalformed},
	{2, []int{-2}, api.ErrMalformed},
	{3, []int{1, 2, 3}, api.ErrMalformed},
	{3, []int{-3, 2, 1}, api.ErrMalformed},
	{3, []int{3, -3}, api.ErrMalformed},
	{6, []int{math.MinInt}, api.ErrMalformed},
	{6, []int{math.MaxInt}, api.ErrMalformed},
	{6, append(repeat(11, 5), 6), api.ErrMalformed},

	// More than MaxBracket letters.
	{2, repeat(13, 1), api.ErrTooLarge},
	{2, repeat(13, -1), api.ErrTooLarge},
	{6, repeat(7, 5, -5), api.ErrTooLarge},
	{3, repeat(15, 1, 2), api.ErrTooLarge},

	// Several errors: those of braid.Check come first.
	{0, repeat(31, 0), api.ErrArgument},
	{7, repeat(13, 1), api.ErrArgument},
	{0, []int{0}, api.ErrArgument},
	{2, repeat(31, 0), api.ErrTooLarge},
	{1, repeat(13, 1), api.ErrMalformed},
	{2, append(repeat(12, 1), 2), api.ErrMalformed},
	{2, append(repeat(12, 1), 0), api.ErrMalformed},
	{6, repeat(30, -6), api.ErrMalformed},
}
