package dehornoy

import (
	"math"
	"slices"
	"testing"

	"timbrel/api"
)

// repeat returns k copies of the letters one after the other.
func repeat(k int, letters ...int) []int {
	return slices.Repeat(letters, k)
}

// letters returns all letters of braid words on n strands.
func letters(n int) []int {
	var all []int
	for i := 1; i < n; i++ {
		all = append(all, i, -i)
	}
	return all
}

// words returns all words on n strands of up to length letters, the shortest ones first.
func words(n, length int) [][]int {
	all := [][]int{nil}
	for begin := 0; length > 0; length-- {
		end := len(all)
		for _, w := range all[begin:end] {
			for _, x := range letters(n) {
				all = append(all, append(slices.Clone(w), x))
			}
		}
		begin = end
	}
	return all
}

// source is a sequence of numbers that look random and are always the same.
type source uint64

func (s *source) below(n int) int {
	*s = *s*6364136223846793005 + 1442695040888963407
	return int(uint64(*s) >> 33 % uint64(n))
}

// word returns a word of the given length on n strands, n > 1.
func (s *source) word(n, length int) []int {
	var w []int
	for range length {
		w = append(w, letters(n)[s.below(2*n-2)])
	}
	return w
}

// braidCase is a word on n strands.
type braidCase struct {
	n int
	w []int
}

// hardCases are words whose reduction takes many steps and becomes longer than the word.
var hardCases = []braidCase{
	{3, append(repeat(20, 1), -2, -1, 2, 1, -2, -1, 2, 1, -2, -1)},
	{4, []int{1, -2, 1, -2, 1, 3, -2, 1, 3, -2, 3, -2, 1, -2, 1, -2, -3, -3, 2, 2, -1, -1, 2, 2, 3, -2, 1, 3, -1, -2}},
	{5, []int{-1, -1, 2, 2, -3, 4, 2, -3, 4, -3, -1, 2, 2, -4, -3, -3, 4, 2, 1, -3, 4, 2, -3, 2, 2, -1, 2, 1, -4, -1}},
	{6, []int{1, 2, 3, 2, 2, 4, 2, 2, 2, 2, -1, 2, -3, -4, 5, 5, 4, -3, 2, -1, -1, -4, -3, -1, -1, -1, -1, -1, -2, -1}},
}

// samples returns short words and longer ones up to the given length, on all numbers of strands.
func samples(length int) []braidCase {
	var s source
	all := []braidCase{{1, nil}}
	for n := 2; n <= api.MaxStrands; n++ {
		for _, w := range words(n, 3) {
			all = append(all, braidCase{n, w})
		}
		for k := range length + 1 {
			for range 5 {
				all = append(all, braidCase{n, s.word(n, k)})
			}
		}
	}
	if length == api.MaxBraid {
		all = append(all, hardCases...)
	}
	return all
}

func plainInverse(w []int) []int {
	w = slices.Clone(w)
	slices.Reverse(w)
	for i := range w {
		w[i] = -w[i]
	}
	return w
}

func plainIndex(x int) int {
	if x < 0 {
		return -x
	}
	return x
}

// hasPair reports whether a word has adjacent letters x, -x at a place.
func hasPair(w []int, at int) bool {
	return at+1 < len(w) && w[at] == -w[at+1]
}

// isHandle reports whether a part of a word is a handle, as the chapter states it.
func isHandle(part []int) bool {
	last := len(part) - 1
	if last < 1 || part[0] != -part[last] {
		return false
	}
	return !slices.ContainsFunc(part[1:last], func(x int) bool { return plainIndex(x) <= plainIndex(part[0]) })
}

// plainPairs deletes pairs one at a time.
func plainPairs(w []int) []int {
	w = slices.Clone(w)
	for at := 0; at < len(w); at++ {
		if hasPair(w, at) {
			w = slices.Delete(w, at, at+2)
			at = -1
		}
	}
	return w
}

// plainHandle returns what precedes the handle that ends first, the handle, and what follows it. Without a handle, the second one is empty.
func plainHandle(w []int) ([]int, []int, []int) {
	for end := range w {
		for begin := range end {
			if isHandle(w[begin : end+1]) {
				return w[:begin], w[begin : end+1], w[end+1:]
			}
		}
	}
	return w, nil, nil
}

// plainReduceHandle replaces a handle as the chapter states it.
func plainReduceHandle(part []int) []int {
	x := part[0]
	up := x + 1 // s (i+1)
	if x < 0 {
		up = x - 1
	}
	var all []int
	for _, y := range part[1 : len(part)-1] {
		switch y {
		case plainIndex(up):
			all = append(all, -up, y-1, up)
		case -plainIndex(up):
			all = append(all, -up, y+1, up)
		default:
			all = append(all, y)
		}
	}
	return all
}

// plainReduce reduces a word of any length as the chapter states it.
func plainReduce(w []int) []int {
	for {
		before, part, after := plainHandle(plainPairs(w))
		if len(part) == 0 {
			return before
		}
		w = slices.Concat(before, plainReduceHandle(part), after)
	}
}

// plainSign returns the sign of the letters with the smallest index of a word without handles.
func plainSign(t *testing.T, w []int) int {
	t.Helper()
	for i := 1; i < api.MaxStrands; i++ {
		positive, negative := slices.Contains(w, i), slices.Contains(w, -i)
		switch {
		case positive && negative:
			t.Errorf("%v has letters of both signs", w)
		case positive:
			return 1
		case negative:
			return -1
		}
	}
	return 0
}

// prime is the modulus of the matrices by which braids of any length are told apart.
const prime = 1<<31 - 1

// matrix is a matrix [[a, b], [c, d]] with the determinant 1 modulo the prime.
type matrix [4]int

func (m matrix) times(o matrix) matrix {
	return matrix{
		(m[0]*o[0] + m[1]*o[2]) % prime, (m[0]*o[1] + m[1]*o[3]) % prime,
		(m[2]*o[0] + m[3]*o[2]) % prime, (m[2]*o[1] + m[3]*o[3]) % prime,
	}
}

func (m matrix) inverse() matrix {
	return matrix{m[3], (prime - m[1]) % prime, (prime - m[2]) % prime, m[0]}
}

// trace returns what a word makes of a tuple of matrices: the letter i replaces the neighbours g, h by g h g^-1, g. It is the same for words that are equal as braids, and all but certainly not for others.
func trace(n int, w []int) [api.MaxStrands]matrix {
	var all [api.MaxStrands]matrix
	var s source
	for i := range n {
		x, y := 1+s.below(prime-1), 1+s.below(prime-1)
		all[i] = matrix{1, x, 0, 1}.times(matrix{1, 0, y, 1})
	}
	for _, x := range w {
		i := plainIndex(x)
		g, h := all[i-1], all[i]
		if x > 0 {
			all[i-1], all[i] = g.times(h).times(g.inverse()), g
		} else {
			all[i-1], all[i] = h, h.inverse().times(g).times(h)
		}
	}
	return all
}

// reduce returns the reduced word of a word that has no error.
func reduce(t *testing.T, n int, w []int) []int {
	t.Helper()
	r, e := Reduce(n, w)
	if e != api.OK {
		t.Fatalf("Reduce(%d, %v) = %v, %d", n, w, r, e)
	}
	return r
}

// signOf returns the sign of a word that has no error.
func signOf(t *testing.T, n int, w []int) int {
	t.Helper()
	s, e := Sign(n, w)
	if e != api.OK {
		t.Fatalf("Sign(%d, %v) = %d, %d", n, w, s, e)
	}
	return s
}

// compare compares two words that have no error, in both orders.
func compare(t *testing.T, n int, a, b []int) int {
	t.Helper()
	k, e := Compare(n, a, b)
	l, f := Compare(n, b, a)
	if e != api.OK || f != api.OK || k != -l || k < -1 || k > 1 {
		t.Fatalf("Compare(%d, %v, %v) = %d, %d, but in the other order %d, %d", n, a, b, k, e, l, f)
	}
	return k
}

// relation is a pair of words that are equal as braids.
type relation struct {
	n    int
	a, b []int
}

// relations returns the relations of all letters, and the pairs of inverse letters.
func relations() []relation {
	var all []relation
	for n := 2; n <= api.MaxStrands; n++ {
		for _, x := range letters(n) {
			all = append(all, relation{n, []int{x, -x}, nil})
			for _, y := range letters(n) {
				switch distance := plainIndex(x) - plainIndex(y); {
				case distance < -1 || distance > 1:
					all = append(all, relation{n, []int{x, y}, []int{y, x}})
				case distance != 0 && x*y > 0:
					all = append(all, relation{n, []int{x, y, x}, []int{y, x, y}})
					all = append(all, relation{n, []int{x, y, -x}, []int{-y, x, y}})
				}
			}
		}
	}
	return all
}

// errorCases are the words for which braid.Check has an error.
var errorCases = []struct {
	n    int
	w    []int
	want api.Errno
}{
	{0, nil, api.ErrArgument},
	{-1, nil, api.ErrArgument},
	{7, nil, api.ErrArgument},
	{7, []int{1}, api.ErrArgument},
	{math.MinInt, []int{1}, api.ErrArgument},
	{math.MaxInt, []int{1}, api.ErrArgument},
	{1, repeat(31, 1), api.ErrTooLarge},
	{2, repeat(31, 1), api.ErrTooLarge},
	{6, repeat(500, 1, -1), api.ErrTooLarge},
	{1, []int{1}, api.ErrMalformed},
	{1, []int{0}, api.ErrMalformed},
	{2, []int{0}, api.ErrMalformed},
	{2, []int{2}, api.ErrMalformed},
	{2, []int{-2}, api.ErrMalformed},
	{3, []int{1, 2, 3}, api.ErrMalformed},
	{3, []int{-3, 2, 1}, api.ErrMalformed},
	{3, []int{3, -3}, api.ErrMalformed},
	{6, []int{math.MinInt}, api.ErrMalformed},
	{6, []int{math.MaxInt}, api.ErrMalformed},
	{6, append(repeat(29, 5), 6), api.ErrMalformed},

	// Several errors: the strands come first, then the length, then the letters.
	{0, repeat(31, 0), api.ErrArgument},
	{7, repeat(31, 1), api.ErrArgument},
	{0, []int{0}, api.ErrArgument},
	{2, repeat(31, 0), api.ErrTooLarge},
	{2, append(repeat(30, 1), 2), api.ErrTooLarge},
}
