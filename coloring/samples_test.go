package coloring

import (
	"math"
	"slices"
	"testing"

	"timbrel/api"
)

// repeat returns k copies of the letters one after the other.
func repeat(k int, letters ...int) []int {
	return slices.Repeat(letters, k)
}

// letters returns all letters of braid words on n strands.
func letters(n int) []int {
	var all []int
	for i := 1; i < n; i++ {
		all = append(all, i, -i)
	}
	return all
}

// staircase returns the letters 1 to n - 1.
func staircase(n int) []int {
	var w []int
	for i := 1; i < n; i++ {
		w = append(w, i)
	}
	return w
}

// plainIndex returns the number of the generator of a letter.
func plainIndex(x int) int {
	if x < 0 {
		return -x
	}
	return x
}

// plainInverse returns the opposite letters in the opposite order.
func plainInverse(w []int) []int {
	var l []int
	for _, x := range slices.Backward(w) {
		l = append(l, -x)
	}
	return l
}

// shifted returns the letters with the generators moved by a number of positions.
func shifted(w []int, by int) []int {
	var l []int
	for _, x := range w {
		l = append(l, x+by*x/plainIndex(x))
	}
	return l
}

// remainder returns x modulo m, which is not negative.
func remainder(x, m int) int {
	return (x%m + m) % m
}

// plainGCD returns the greatest common divisor of x and m, m > 0, by trying all.
func plainGCD(x, m int) int {
	d := m
	for x%d != 0 || m%d != 0 {
		d--
	}
	return d
}

func plainPower(x, k int) int {
	power := 1
	for range k {
		power *= x
	}
	return power
}

// source is a sequence of numbers that look random and are always the same.
type source uint64

func (s *source) below(n int) int {
	*s = *s*6364136223846793005 + 1442695040888963407
	return int(uint64(*s) >> 33 % uint64(n))
}

// word returns a word of the given length on n strands, n > 1.
func (s *source) word(n, length int) []int {
	var w []int
	for range length {
		w = append(w, letters(n)[s.below(2*n-2)])
	}
	return w
}

// colors returns n colors.
func (s *source) colors(n, modulus int) []int {
	var c []int
	for range n {
		c = append(c, s.below(modulus))
	}
	return c
}

// braidCase is a word on n strands.
type braidCase struct {
	n int
	w []int
}

// samples returns words on all numbers of strands: all of up to 2 letters, and some of each further length up to the given one.
func samples(length int) []braidCase {
	var s source
	all := []braidCase{{1, nil}}
	for n := 2; n <= api.MaxStrands; n++ {
		all = append(all, braidCase{n, nil})
		for _, x := range letters(n) {
			all = append(all, braidCase{n, []int{x}})
			for _, y := range letters(n) {
				all = append(all, braidCase{n, []int{x, y}})
			}
		}
		for k := 3; k <= length; k++ {
			all = append(all, braidCase{n, s.word(n, k)}, braidCase{n, s.word(n, k)})
		}
	}
	return all
}

// plainPropagate follows the chapter with integers and reduces them modulo modulus at the end. 30 letters lead to less than 10^13.
func plainPropagate(w, c []int, modulus int) []int {
	c = slices.Clone(c)
	for _, x := range w {
		i := plainIndex(x)
		a, b := c[i-1], c[i]
		if x > 0 {
			c[i-1], c[i] = 2*a-b, a
		} else {
			c[i-1], c[i] = b, 2*b-a
		}
	}
	for i, x := range c {
		c[i] = remainder(x, modulus)
	}
	return c
}

// list returns the list of colors with a number from 0 to modulus^n - 1.
func list(n, modulus, number int) []int {
	c := make([]int, n)
	for i := range c {
		c[i] = number % modulus
		number /= modulus
	}
	return c
}

// plainCount tries all lists of colors.
func plainCount(n int, w []int, modulus int) int {
	count := 0
	for number := range plainPower(modulus, n) {
		c := list(n, modulus, number)
		if slices.Equal(plainPropagate(w, c, modulus), c) {
			count++
		}
	}
	return count
}

// propagated returns the result of Propagate for arguments that have no error.
func propagated(t *testing.T, n int, w, c []int, modulus int) []int {
	t.Helper()
	l, e := Propagate(n, w, c, modulus)
	if e != api.OK {
		t.Fatalf("Propagate(%d, %v, %v, %d) = %v, %d", n, w, c, modulus, l, e)
	}
	return l
}

// counted returns the result of Count for arguments that have no error.
func counted(t *testing.T, n int, w []int, modulus int) int {
	t.Helper()
	k, e := Count(n, w, modulus)
	if e != api.OK {
		t.Fatalf("Count(%d, %v, %d) = %d, %d", n, w, modulus, k, e)
	}
	return k
}

// relation is a pair of words that are equal as braids.
type relation struct {
	n    int
	a, b []int
}

// relations returns the relations of all letters, and the pairs of inverse letters.
func relations() []relation {
	var all []relation
	for n := 2; n <= api.MaxStrands; n++ {
		for _, x := range letters(n) {
			all = append(all, relation{n, []int{x, -x}, nil})
			for _, y := range letters(n) {
				switch distance := plainIndex(x) - plainIndex(y); {
				case distance < -1 || distance > 1:
					all = append(all, relation{n, []int{x, y}, []int{y, x}})
				case distance != 0 && x*y > 0:
					all = append(all, relation{n, []int{x, y, x}, []int{y, x, y}})
					all = append(all, relation{n, []int{x, y, -x}, []int{-y, x, y}})
				}
			}
		}
	}
	return all
}

// commonErrors are arguments for which both functions have the same error, or none.
var commonErrors = []struct {
	n       int
	w       []int
	modulus int
	want    api.Errno
}{
	{1, nil, 1, api.OK},
	{1, nil, 13, api.OK},
	{6, nil, 13, api.OK},
	{2, repeat(30, 1), 13, api.OK},
	{6, repeat(15, 5, -5), 1, api.OK},

	// The number of strands.
	{0, nil, 3, api.ErrArgument},
	{-1, nil, 3, api.ErrArgument},
	{7, nil, 3, api.ErrArgument},
	{7, []int{1}, 3, api.ErrArgument},
	{math.MinInt, []int{1}, 3, api.ErrArgument},
	{math.MaxInt, []int{1}, 3, api.ErrArgument},
	{1<<32 + 2, []int{1}, 3, api.ErrArgument},

	// More than MaxBraid letters.
	{1, repeat(31, 1), 3, api.ErrTooLarge},
	{2, repeat(31, -1), 3, api.ErrTooLarge},
	{6, repeat(500, 1, -1), 3, api.ErrTooLarge},

	// Letters.
	{1, []int{1}, 3, api.ErrMalformed},
	{1, []int{0}, 3, api.ErrMalformed},
	{2, []int{0}, 3, api.ErrMalformed},
	{2, []int{2}, 3, api.ErrMalformed},
	{2, []int{-2}, 3, api.ErrMalformed},
	{3, []int{1, 2, 3}, 3, api.ErrMalformed},
	{3, []int{-3, 2, 1}, 3, api.ErrMalformed},
	{6, []int{math.MinInt}, 3, api.ErrMalformed},
	{6, []int{math.MaxInt}, 3, api.ErrMalformed},
	{6, append(repeat(29, 5), 6), 3, api.ErrMalformed},

	// The modulus.
	{1, nil, 0, api.ErrArgument},
	{2, []int{1}, -1, api.ErrArgument},
	{2, []int{1}, -3, api.ErrArgument},
	{2, []int{1}, 14, api.ErrArgument},
	{6, repeat(30, 1), 1<<32 + 3, api.ErrArgument},
	{3, []int{1, 2}, math.MinInt, api.ErrArgument},
	{3, []int{1, 2}, math.MaxInt, api.ErrArgument},

	// Several errors: those of braid.Check come first.
	{0, repeat(31, 0), 3, api.ErrArgument},
	{7, []int{0}, 0, api.ErrArgument},
	{2, repeat(31, 0), 3, api.ErrTooLarge},
	{2, repeat(31, 1), 0, api.ErrTooLarge},
	{6, repeat(31, 1), 14, api.ErrTooLarge},
	{1, []int{1}, 0, api.ErrMalformed},
	{2, []int{2}, 14, api.ErrMalformed},
}
