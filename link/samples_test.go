package link

import (
	"math"
	"slices"
	"testing"

	"timbrel/api"
)

// repeat returns k copies of the letters one after the other.
func repeat(k int, letters ...int) []int {
	return slices.Repeat(letters, k)
}

// letters returns all letters of braid words on n strands.
func letters(n int) []int {
	var all []int
	for i := 1; i < n; i++ {
		all = append(all, i, -i)
	}
	return all
}

// staircase returns the letters 1 to n - 1.
func staircase(n int) []int {
	var w []int
	for i := 1; i < n; i++ {
		w = append(w, i)
	}
	return w
}

// plainIndex returns the number of the generator of a letter.
func plainIndex(x int) int {
	if x < 0 {
		return -x
	}
	return x
}

func plainSign(x int) int {
	if x < 0 {
		return -1
	}
	return 1
}

// plainGCD returns the greatest common divisor of x and m, m > 0, by trying all.
func plainGCD(x, m int) int {
	d := m
	for x%d != 0 || m%d != 0 {
		d--
	}
	return d
}

// mirrored returns the opposite letters in the same order.
func mirrored(w []int) []int {
	var l []int
	for _, x := range w {
		l = append(l, -x)
	}
	return l
}

// backward returns the same letters in the opposite order.
func backward(w []int) []int {
	l := slices.Clone(w)
	slices.Reverse(l)
	return l
}

// shifted returns the letters with the generators moved by a number of positions.
func shifted(w []int, by int) []int {
	var l []int
	for _, x := range w {
		l = append(l, x+by*plainSign(x))
	}
	return l
}

// source is a sequence of numbers that look random and are always the same.
type source uint64

func (s *source) below(n int) int {
	*s = *s*6364136223846793005 + 1442695040888963407
	return int(uint64(*s) >> 33 % uint64(n))
}

// word returns a word of the given length on n strands, n > 1.
func (s *source) word(n, length int) []int {
	var w []int
	for range length {
		w = append(w, letters(n)[s.below(2*n-2)])
	}
	return w
}

// braidCase is a word on n strands.
type braidCase struct {
	n int
	w []int
}

// samples returns words on all numbers of strands: all of up to 3 letters, and some of each further length up to the given one.
func samples(length int) []braidCase {
	var s source
	all := []braidCase{{1, nil}}
	for n := 2; n <= api.MaxStrands; n++ {
		all = append(all, braidCase{n, nil})
		for _, x := range letters(n) {
			all = append(all, braidCase{n, []int{x}})
			for _, y := range letters(n) {
				all = append(all, braidCase{n, []int{x, y}})
				for _, z := range letters(n) {
					all = append(all, braidCase{n, []int{x, y, z}})
				}
			}
		}
		for k := 4; k <= length; k++ {
			for range 5 {
				all = append(all, braidCase{n, s.word(n, k)})
			}
		}
	}
	return all
}

// moveBy returns where a letter takes a strand from its position.
func moveBy(x, position int) int {
	switch plainIndex(x) {
	case position + 1:
		return position + 1
	case position:
		return position - 1
	}
	return position
}

// plainEnd returns where a strand ends.
func plainEnd(w []int, strand int) int {
	for _, x := range w {
		strand = moveBy(x, strand)
	}
	return strand
}

// leads tells whether one strand leads to another one. On n strands, a circle is complete after at most n times around.
func leads(n int, w []int, from, to int) bool {
	for range n {
		if from == to {
			return true
		}
		from = plainEnd(w, from)
	}
	return false
}

// plainComponents follows the chapter: for each strand to which no smaller one leads, all strands to which it leads.
func plainComponents(n int, w []int) [][]int {
	var all [][]int
	for strand := range n {
		if slices.ContainsFunc(all, func(c []int) bool { return slices.Contains(c, strand) }) {
			continue
		}
		var c []int
		for other := range n {
			if leads(n, w, strand, other) {
				c = append(c, other)
			}
		}
		all = append(all, c)
	}
	return all
}

// crossings returns the sum of the signs of all crossings of two strands.
func crossings(w []int, a, b int) int {
	sum := 0
	for _, x := range w {
		i := plainIndex(x)
		if min(a, b) == i-1 && max(a, b) == i {
			sum += plainSign(x)
		}
		a, b = moveBy(x, a), moveBy(x, b)
	}
	return sum
}

// plainLinking follows the chapter: it adds up the crossings for each pair of strands on its own.
func plainLinking(t *testing.T, n int, w []int) [][]int {
	t.Helper()
	all := plainComponents(n, w)
	var rows [][]int
	for i, c := range all {
		var row []int
		for k, d := range all {
			sum := 0
			for _, a := range c {
				for _, b := range d {
					if a != b {
						sum += crossings(w, a, b)
					}
				}
			}
			if sum%2 != 0 {
				t.Fatalf("on %d strands: the sum for the components %d and %d of %v is odd", n, i, k, w)
			}
			// Within a component, this has counted each pair of strands twice.
			row = append(row, sum/2)
		}
		rows = append(rows, row)
	}
	return rows
}

func sameLists(a, b [][]int) bool {
	return slices.EqualFunc(a, b, slices.Equal[[]int])
}

// components returns the result of Components for arguments that have no error.
func components(t *testing.T, n int, w []int) [][]int {
	t.Helper()
	l, e := Components(n, w)
	if e != api.OK {
		t.Fatalf("Components(%d, %v) = %v, %d", n, w, l, e)
	}
	return l
}

// linking returns the result of LinkingNumbers for arguments that have no error.
func linking(t *testing.T, n int, w []int) [][]int {
	t.Helper()
	l, e := LinkingNumbers(n, w)
	if e != api.OK {
		t.Fatalf("LinkingNumbers(%d, %v) = %v, %d", n, w, l, e)
	}
	return l
}

// isKnot returns the result of IsKnot for arguments that have no error.
func isKnot(t *testing.T, n int, w []int) bool {
	t.Helper()
	is, e := IsKnot(n, w)
	if e != api.OK {
		t.Fatalf("IsKnot(%d, %v) = %v, %d", n, w, is, e)
	}
	return is
}

// relation is a pair of words that are equal as braids.
type relation struct {
	n    int
	a, b []int
}

// relations returns the relations of all letters, and the pairs of inverse letters.
func relations() []relation {
	var all []relation
	for n := 2; n <= api.MaxStrands; n++ {
		for _, x := range letters(n) {
			all = append(all, relation{n, []int{x, -x}, nil})
			for _, y := range letters(n) {
				switch distance := plainIndex(x) - plainIndex(y); {
				case distance < -1 || distance > 1:
					all = append(all, relation{n, []int{x, y}, []int{y, x}})
				case distance != 0 && x*y > 0:
					all = append(all, relation{n, []int{x, y, x}, []int{y, x, y}})
					all = append(all, relation{n, []int{x, y, -x}, []int{-y, x, y}})
				}
			}
		}
	}
	return all
}

// commonErrors are arguments for which all functions have the same error, or none.
var commonErrors = []struct {
	n    int
	w    []int
	want api.Errno
}{
	{1, nil, api.OK},
	{1, []int{}, api.OK},
	{6, nil, api.OK},
	{2, repeat(30, 1), api.OK},
	{6, repeat(15, 5, -5), api.OK},

	// The number of strands.
	{0, nil, api.ErrArgument},
	{-1, nil, api.ErrArgument},
	{7, nil, api.ErrArgument},
	{7, []int{1}, api.ErrArgument},
	{math.MinInt, []int{1}, api.ErrArgument},
	{math.MaxInt, []int{1}, api.ErrArgument},
	{1<<32 + 2, []int{1}, api.ErrArgument},

	// More than MaxBraid letters.
	{1, repeat(31, 1), api.ErrTooLarge},
	{2, repeat(31, -1), api.ErrTooLarge},
	{6, repeat(500, 1, -1), api.ErrTooLarge},

	// Letters.
	{1, []int{1}, api.ErrMalformed},
	{1, []int{-1}, api.ErrMalformed},
	{1, []int{0}, api.ErrMalformed},
	{2, []int{0}, api.ErrMalformed},
	{2, []int{2}, api.ErrMalformed},
	{2, []int{-2}, api.ErrMalformed},
	{3, []int{1, 2, 3}, api.ErrMalformed},
	{3, []int{-3, 2, 1}, api.ErrMalformed},
	{6, []int{math.MinInt}, api.ErrMalformed},
	{6, []int{math.MaxInt}, api.ErrMalformed},
	{6, append(repeat(29, 5), 6), api.ErrMalformed},

	// Several errors.
	{0, repeat(31, 0), api.ErrArgument},
	{7, []int{0}, api.ErrArgument},
	{2, repeat(31, 0), api.ErrTooLarge},
	{1, repeat(31, 2), api.ErrTooLarge},
}
