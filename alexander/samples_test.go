package alexander

import (
	"maps"
	"math"
	"slices"
	"testing"

	"timbrel/api"
)

// repeat returns k copies of the letters one after the other.
func repeat(k int, letters ...int) []int {
	return slices.Repeat(letters, k)
}

// letters returns all letters of braid words on n strands.
func letters(n int) []int {
	var all []int
	for i := 1; i < n; i++ {
		all = append(all, i, -i)
	}
	return all
}

// words returns all words on n strands of up to length letters, the shortest ones first.
func words(n, length int) [][]int {
	all := [][]int{nil}
	for begin := 0; length > 0; length-- {
		end := len(all)
		for _, w := range all[begin:end] {
			for _, x := range letters(n) {
				all = append(all, append(slices.Clone(w), x))
			}
		}
		begin = end
	}
	return all
}

// source is a sequence of numbers that look random and are always the same.
type source uint64

func (s *source) below(n int) int {
	*s = *s*6364136223846793005 + 1442695040888963407
	return int(uint64(*s) >> 33 % uint64(n))
}

// word returns a word of the given length on n strands, n > 1.
func (s *source) word(n, length int) []int {
	var w []int
	for range length {
		w = append(w, letters(n)[s.below(2*n-2)])
	}
	return w
}

// braidCase is a word on n strands.
type braidCase struct {
	n int
	w []int
}

// samples returns short words and longer ones up to the given length, on all numbers of strands.
func samples(length int) []braidCase {
	var s source
	all := []braidCase{{1, nil}}
	for n := 2; n <= api.MaxStrands; n++ {
		for _, w := range words(n, 2) {
			all = append(all, braidCase{n, w})
		}
		for k := 3; k <= length; k++ {
			for range 2 {
				all = append(all, braidCase{n, s.word(n, k)})
			}
		}
	}
	return all
}

// longWords returns words of MaxAlexander letters.
func longWords() []braidCase {
	var s source
	all := []braidCase{
		{3, repeat(10, 1, -2)},
		{3, repeat(10, 1, 2)},
		{4, append(repeat(6, 1, -2, 3), 1, -2)},
		{5, repeat(5, 1, -2, 3, -4)},
		{5, repeat(5, 1, 2, 3, 4)},
		{6, repeat(4, 1, -2, 3, -4, 5)},
		{6, repeat(4, 1, 3, 5, -2, -4)},
		{6, repeat(4, 1, 2, 3, 4, 5)},
	}
	for n := 2; n <= api.MaxStrands; n++ {
		for _, x := range letters(n) {
			all = append(all, braidCase{n, repeat(20, x)})
		}
		for range 6 {
			all = append(all, braidCase{n, s.word(n, 20)})
		}
	}
	return all
}

// terms is a polynomial as a map from exponents to coefficients.
type terms map[int]int

func (m terms) plus(o terms) terms {
	sum := maps.Clone(m)
	for k, x := range o {
		sum[k] += x
	}
	return sum
}

func (m terms) times(o terms) terms {
	product := terms{}
	for i, x := range m {
		for k, y := range o {
			product[i+k] += x * y
		}
	}
	return product
}

// normal returns the polynomial with these terms times 1 or -1 and a power of t, such that the lowest exponent is 0 and the last coefficient is positive.
func (m terms) normal() api.Poly {
	m = maps.Clone(m)
	maps.DeleteFunc(m, func(_, x int) bool { return x == 0 })
	if len(m) == 0 {
		return api.Poly{}
	}
	exponents := slices.Sorted(maps.Keys(m))
	low, high := exponents[0], exponents[len(exponents)-1]
	var p api.Poly
	for k := low; k <= high; k++ {
		if m[high] < 0 {
			p.C = append(p.C, -m[k])
		} else {
			p.C = append(p.C, m[k])
		}
	}
	return p
}

func termsOf(p api.Poly) terms {
	m := terms{}
	for i, x := range p.C {
		m[p.Low+i] = x
	}
	return m
}

// poly returns the polynomial with the given coefficients from exponent 0 on.
func poly(c ...int) api.Poly {
	return api.Poly{C: c}
}

func same(a, b api.Poly) bool {
	return a.Low == b.Low && slices.Equal(a.C, b.C)
}

// plainIndex returns the number of the generator of a letter.
func plainIndex(x int) int {
	if x < 0 {
		return -x
	}
	return x
}

// plainIdentity returns the identity matrix.
func plainIdentity(n int) [][]terms {
	m := make([][]terms, n)
	for i := range m {
		for k := range n {
			m[i] = append(m[i], terms{})
			if i == k {
				m[i][k][0] = 1
			}
		}
	}
	return m
}

// plainLetter returns the matrix of a letter as P8.3 states it.
func plainLetter(n, x int) [][]terms {
	m := plainIdentity(n)
	if x > 0 {
		m[x-1][x-1], m[x-1][x] = terms{0: 1, 1: -1}, terms{1: 1}
		m[x][x-1], m[x][x] = terms{0: 1}, terms{}
		return m
	}
	i := -x
	m[i-1][i-1], m[i-1][i] = terms{}, terms{0: 1}
	m[i][i-1], m[i][i] = terms{-1: 1}, terms{0: 1, -1: -1}
	return m
}

// plainBurau multiplies the matrices of all letters in order.
func plainBurau(n int, w []int) [][]terms {
	m := plainIdentity(n)
	for _, x := range w {
		letter := plainLetter(n, x)
		product := make([][]terms, n)
		for i := range n {
			for k := range n {
				sum := terms{}
				for j := range n {
					sum = sum.plus(m[i][j].times(letter[j][k]))
				}
				product[i] = append(product[i], sum)
			}
		}
		m = product
	}
	return m
}

// plainDet returns the determinant of a matrix as the sum over all permutations: over the columns of the first row and those that remain for the other rows.
func plainDet(m [][]terms, columns []int, product terms) terms {
	if len(m) == 0 {
		return product
	}
	sum, sign := terms{}, 1
	for i, column := range columns {
		others := slices.Concat(columns[:i], columns[i+1:])
		next := product.times(m[0][column]).times(terms{0: sign})
		sum = sum.plus(plainDet(m[1:], others, next))
		sign = -sign
	}
	return sum
}

// plainPolynomial computes the polynomial as P14.1 states it.
func plainPolynomial(n int, w []int) api.Poly {
	b := plainBurau(n, w)
	m := plainIdentity(n - 1)
	var columns []int
	for i := range m {
		columns = append(columns, i)
		for k := range m {
			m[i][k] = m[i][k].plus(b[i][k].times(terms{0: -1}))
		}
	}
	return plainDet(m, columns, terms{0: 1}).normal()
}

// components returns the number of components of a closed braid.
func components(n int, w []int) int {
	var strands []int
	for i := range n {
		strands = append(strands, i)
	}
	for _, x := range w {
		i := plainIndex(x)
		strands[i-1], strands[i] = strands[i], strands[i-1]
	}
	count := 0
	seen := make([]bool, n)
	for i := range n {
		if !seen[i] {
			count++
		}
		for ; !seen[i]; i = strands[i] {
			seen[i] = true
		}
	}
	return count
}

// polynomial returns the polynomial of a word that has no error.
func polynomial(t *testing.T, n int, w []int) api.Poly {
	t.Helper()
	p, e := Polynomial(n, w)
	if e != api.OK {
		t.Fatalf("Polynomial(%d, %v) = %v, %d", n, w, p, e)
	}
	return p
}

// determinantOf returns the determinant of a word that has no error.
func determinantOf(t *testing.T, n int, w []int) int {
	t.Helper()
	d, e := Determinant(n, w)
	if e != api.OK {
		t.Fatalf("Determinant(%d, %v) = %d, %d", n, w, d, e)
	}
	return d
}

// relation is a pair of words that are equal as braids.
type relation struct {
	n    int
	a, b []int
}

// relations returns the relations of all letters, and the pairs of inverse letters.
func relations() []relation {
	var all []relation
	for n := 2; n <= api.MaxStrands; n++ {
		for _, x := range letters(n) {
			all = append(all, relation{n, []int{x, -x}, nil})
			for _, y := range letters(n) {
				switch distance := plainIndex(x) - plainIndex(y); {
				case distance < -1 || distance > 1:
					all = append(all, relation{n, []int{x, y}, []int{y, x}})
				case distance != 0 && x*y > 0:
					all = append(all, relation{n, []int{x, y, x}, []int{y, x, y}})
					all = append(all, relation{n, []int{x, y, -x}, []int{-y, x, y}})
				}
			}
		}
	}
	return all
}

// moved returns a braid whose closed braid is the same link, or the same braid if the move that is tried is not possible.
func (s *source) moved(c braidCase) braidCase {
	n, w := c.n, slices.Clone(c.w)
	switch s.below(6) {
	case 0: // the first letter goes to the end
		if len(w) > 0 {
			w = append(w[1:], w[0])
		}
	case 1: // a pair of inverse letters is inserted
		if n > 1 {
			x := s.word(n, 1)[0]
			w = slices.Insert(w, s.below(len(w)+1), x, -x)
		}
	case 2: // a strand is added
		w = append(w, []int{n, -n}[s.below(2)])
		n++
	case 3: // the last strand is removed
		if len(w) > 0 && plainIndex(w[len(w)-1]) == n-1 && !hasGenerator(w[:len(w)-1], n-1) {
			w = w[:len(w)-1]
			n--
		}
	default: // a relation is applied somewhere
		w = s.related(n, w)
	}
	if n > api.MaxStrands || len(w) > api.MaxAlexander {
		return c
	}
	return braidCase{n, w}
}

func hasGenerator(w []int, i int) bool {
	return slices.Contains(w, i) || slices.Contains(w, -i)
}

// related replaces a part of a word that is one side of a relation by the other side, if there is such a part.
func (s *source) related(n int, w []int) []int {
	all := relations()
	first := s.below(len(all))
	for _, r := range append(all[first:], all[:first]...) {
		for at := range w {
			end := at + len(r.a)
			if r.n == n && end <= len(w) && slices.Equal(w[at:end], r.a) {
				return slices.Concat(w[:at], r.b, w[end:])
			}
		}
	}
	return w
}

// errorCases are words with errors, and words at the limits without one.
var errorCases = []struct {
	n    int
	w    []int
	want api.Errno
}{
	{1, nil, api.OK},
	{6, nil, api.OK},
	{2, repeat(16, 1), api.OK},
	{2, repeat(17, 1), api.OK},
	{2, repeat(20, 1), api.OK},
	{2, repeat(10, 1, -1), api.OK},
	{6, repeat(20, -5), api.OK},

	// The number of strands.
	{0, nil, api.ErrArgument},
	{-1, nil, api.ErrArgument},
	{7, nil, api.ErrArgument},
	{7, []int{1}, api.ErrArgument},
	{math.MinInt, []int{1}, api.ErrArgument},
	{math.MaxInt, []int{1}, api.ErrArgument},
	{1<<32 + 2, []int{1}, api.ErrArgument},

	// More than MaxBraid letters.
	{1, repeat(31, 1), api.ErrTooLarge},
	{2, repeat(31, 1), api.ErrTooLarge},
	{6, repeat(500, 1, -1), api.ErrTooLarge},

	// Letters.
	{1, []int{1}, api.ErrMalformed},
	{1, []int{0}, api.ErrMalformed},
	{2, []int{0}, api.ErrMalformed},
	{2, []int{2}, api.ErrMalformed},
	{2, []int{-2}, api.ErrMalformed},
	{3, []int{1, 2, 3}, api.ErrMalformed},
	{3, []int{-3, 2, 1}, api.ErrMalformed},
	{3, []int{3, -3}, api.ErrMalformed},
	{6, []int{math.MinInt}, api.ErrMalformed},
	{6, []int{math.MaxInt}, api.ErrMalformed},
	{6, append(repeat(19, 5), 6), api.ErrMalformed},

	// More than MaxAlexander letters.
	{2, repeat(21, 1), api.ErrTooLarge},
	{2, repeat(21, -1), api.ErrTooLarge},
	{6, repeat(11, 5, -5), api.ErrTooLarge},
	{3, repeat(15, 1, 2), api.ErrTooLarge},

	// Several errors: those of braid.Check come first.
	{0, repeat(31, 0), api.ErrArgument},
	{7, repeat(21, 1), api.ErrArgument},
	{0, []int{0}, api.ErrArgument},
	{2, repeat(31, 0), api.ErrTooLarge},
	{1, repeat(21, 1), api.ErrMalformed},
	{2, append(repeat(20, 1), 2), api.ErrMalformed},
	{2, append(repeat(20, 1), 0), api.ErrMalformed},
	{6, repeat(30, -6), api.ErrMalformed},
}
