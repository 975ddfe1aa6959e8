package braid

import (
	"math"
	"slices"
	"testing"

	"timbrel/api"
	"timbrel/perm"
)

// repeat returns k copies of the letters one after the other.
func repeat(k int, letters ...int) []int {
	return slices.Repeat(letters, k)
}

// letters returns all letters of words on n strands.
func letters(n int) []int {
	var all []int
	for i := 1; i < n; i++ {
		all = append(all, i, -i)
	}
	return all
}

// words returns all words on n strands of up to length letters, the shortest ones first.
func words(n, length int) [][]int {
	all := [][]int{nil}
	for begin := 0; length > 0; length-- {
		end := len(all)
		for _, w := range all[begin:end] {
			for _, x := range letters(n) {
				all = append(all, append(slices.Clone(w), x))
			}
		}
		begin = end
	}
	return all
}

// source is a sequence of numbers that look random and are always the same.
type source uint64

func (s *source) below(n int) int {
	*s = *s*6364136223846793005 + 1442695040888963407
	return int(uint64(*s) >> 33 % uint64(n))
}

// word returns a word of the given length on n strands, n > 1.
func (s *source) word(n, length int) []int {
	var w []int
	for range length {
		w = append(w, letters(n)[s.below(2*n-2)])
	}
	return w
}

// braidCase is a word on n strands.
type braidCase struct {
	n int
	w []int
}

// samples returns short words and longer ones up to the given length, on all numbers of strands.
func samples(length int) []braidCase {
	var s source
	all := []braidCase{{1, nil}}
	for n := 2; n <= api.MaxStrands; n++ {
		for _, w := range words(n, 3) {
			all = append(all, braidCase{n, w})
		}
		for k := range length + 1 {
			all = append(all, braidCase{n, s.word(n, k)})
		}
	}
	return all
}

var checkCases = []struct {
	n    int
	w    []int
	want api.Errno
}{
	{1, nil, api.OK},
	{1, []int{}, api.OK},
	{6, nil, api.OK},
	{2, []int{1}, api.OK},
	{2, []int{-1}, api.OK},
	{3, []int{1, -2, 1}, api.OK},
	{6, []int{5, -5, 1, -1, 3}, api.OK},
	{2, repeat(30, 1), api.OK},
	{6, repeat(15, -5, 5), api.OK},

	{0, nil, api.ErrArgument},
	{-1, nil, api.ErrArgument},
	{7, nil, api.ErrArgument},
	{7, []int{1}, api.ErrArgument},
	{math.MinInt, nil, api.ErrArgument},
	{math.MaxInt, []int{1}, api.ErrArgument},
	{1<<32 + 2, []int{1}, api.ErrArgument},

	{1, repeat(31, 1), api.ErrTooLarge},
	{2, repeat(31, 1), api.ErrTooLarge},
	{6, repeat(500, 1, -1), api.ErrTooLarge},

	{1, []int{0}, api.ErrMalformed},
	{1, []int{1}, api.ErrMalformed},
	{1, []int{-1}, api.ErrMalformed},
	{2, []int{0}, api.ErrMalformed},
	{2, []int{2}, api.ErrMalformed},
	{2, []int{-2}, api.ErrMalformed},
	{3, []int{3}, api.ErrMalformed},
	{3, []int{-3}, api.ErrMalformed},
	{3, []int{1, 2, 3}, api.ErrMalformed},
	{3, []int{0, 1, 2}, api.ErrMalformed},
	{6, []int{6}, api.ErrMalformed},
	{6, []int{1, -6, 1}, api.ErrMalformed},
	{6, append(repeat(29, 5), 6), api.ErrMalformed},
	{6, append(repeat(29, 5), 0), api.ErrMalformed},
	{6, []int{math.MaxInt}, api.ErrMalformed},
	{6, []int{math.MinInt}, api.ErrMalformed},
	{6, []int{math.MinInt + 1}, api.ErrMalformed},
	{6, []int{1<<32 + 1}, api.ErrMalformed},

	// Several errors: the strands come first, then the length, then the letters.
	{0, repeat(31, 1), api.ErrArgument},
	{7, repeat(31, 0), api.ErrArgument},
	{0, []int{0}, api.ErrArgument},
	{7, []int{7}, api.ErrArgument},
	{-3, []int{1}, api.ErrArgument},
	{2, repeat(31, 0), api.ErrTooLarge},
	{2, append([]int{2}, repeat(30, 1)...), api.ErrTooLarge},
	{2, append(repeat(30, 1), 2), api.ErrTooLarge},
}

// P8.1: Check.
func TestCheck(t *testing.T) {
	for _, c := range checkCases {
		if e := Check(c.n, c.w); e != c.want {
			t.Errorf("Check(%d, %v) = %d, want %d", c.n, c.w, e, c.want)
		}
	}
	for _, c := range samples(api.MaxBraid) {
		if e := Check(c.n, c.w); e != api.OK {
			t.Errorf("Check(%d, %v) = %d", c.n, c.w, e)
		}
	}
}

// P8.1: all letters on all numbers of strands.
func TestCheckOfEachLetter(t *testing.T) {
	for n := 1; n <= api.MaxStrands; n++ {
		for x := -10; x <= 10; x++ {
			want := api.ErrMalformed
			if slices.Contains(letters(n), x) {
				want = api.OK
			}
			if e := Check(n, []int{x}); e != want {
				t.Errorf("Check(%d, [%d]) = %d, want %d", n, x, e, want)
			}
		}
	}
}

// P8.1: all functions return the error of Check.
func TestErrorOfCheck(t *testing.T) {
	for _, c := range checkCases {
		o := outcomeOf(c.n, c.w)
		for i, e := range []api.Errno{o.permutationError, o.sumError, o.inverseError} {
			if e != c.want {
				t.Errorf("function %d of (%d, %v): error %d, want %d", i, c.n, c.w, e, c.want)
			}
		}
		want := c.want
		if want == api.OK && len(c.w) > 16 {
			want = api.ErrTooLarge
		}
		if o.burauError != want {
			t.Errorf("Burau(%d, %v): error %d, want %d", c.n, c.w, o.burauError, want)
		}
	}
}

// P8.2: Permutation.
func TestPermutation(t *testing.T) {
	for _, c := range []struct {
		n    int
		w    []int
		want []int
	}{
		{3, []int{1, 2}, []int{2, 0, 1}}, // the example

		{1, nil, []int{0}},
		{4, nil, []int{0, 1, 2, 3}},
		{6, []int{}, []int{0, 1, 2, 3, 4, 5}},
		{2, []int{1}, []int{1, 0}},
		{2, []int{-1}, []int{1, 0}},
		{2, []int{1, 1}, []int{0, 1}},
		{2, []int{1, -1}, []int{0, 1}},
		{3, []int{2}, []int{0, 2, 1}},
		{3, []int{2, 1}, []int{1, 2, 0}},
		{3, []int{-1, 2}, []int{2, 0, 1}},
		{3, []int{1, 2, 1}, []int{2, 1, 0}},
		{3, []int{1, -2, 1, -2}, []int{1, 2, 0}},
		{6, []int{1, 2, 3, 4, 5}, []int{5, 0, 1, 2, 3, 4}},
		{6, []int{-5, -4, -3, -2, -1}, []int{1, 2, 3, 4, 5, 0}},
		{6, []int{1, 3, 5}, []int{1, 0, 3, 2, 5, 4}},
		{6, repeat(30, 5), []int{0, 1, 2, 3, 4, 5}},
		{6, repeat(29, 5), []int{0, 1, 2, 3, 5, 4}},
		{3, repeat(15, 1, 2), []int{0, 1, 2}},
	} {
		if p, e := Permutation(c.n, c.w); e != api.OK || !slices.Equal(p, c.want) {
			t.Errorf("Permutation(%d, %v) = %v, %d, want %v", c.n, c.w, p, e, c.want)
		}
	}
}

// P8.2: each strand followed on its own.
func TestPermutationFollowsEachStrand(t *testing.T) {
	for _, c := range samples(api.MaxBraid) {
		p, e := Permutation(c.n, c.w)
		if e != api.OK || len(p) != c.n {
			t.Fatalf("Permutation(%d, %v) = %v, %d", c.n, c.w, p, e)
		}
		for strand := range c.n {
			at := strand
			for _, x := range c.w {
				switch i := max(x, -x); at {
				case i - 1:
					at = i
				case i:
					at = i - 1
				}
			}
			if p[strand] != at {
				t.Errorf("Permutation(%d, %v) = %v, want %d for strand %d", c.n, c.w, p, at, strand)
			}
		}
	}
}

// P8.2: words one after the other have the product of the permutations.
func TestPermutationOfProduct(t *testing.T) {
	for _, c := range samples(api.MaxBraid) {
		whole, _ := Permutation(c.n, c.w)
		for k := range len(c.w) + 1 {
			a, _ := Permutation(c.n, c.w[:k])
			b, _ := Permutation(c.n, c.w[k:])
			if p, e := perm.Compose(a, b); e != api.OK || !slices.Equal(p, whole) {
				t.Errorf("Permutation(%d, %v) = %v, but %v when divided at %d", c.n, c.w, whole, p, k)
			}
		}
	}
}

// P8.2: ExponentSum.
func TestExponentSum(t *testing.T) {
	for _, c := range []struct {
		n    int
		w    []int
		want int
	}{
		{1, nil, 0},
		{6, []int{}, 0},
		{2, []int{1}, 1},
		{2, []int{-1}, -1},
		{6, []int{5}, 1},
		{6, []int{-5}, -1},
		{2, []int{1, -1}, 0},
		{3, []int{1, -2, 1}, 1},
		{6, []int{5, 4, 3, -2, 1}, 3},
		{6, []int{-5, -4, 1, 1}, 0},
		{2, repeat(30, 1), 30},
		{6, repeat(30, -5), -30},
		{4, repeat(10, 1, -2, -3), -10},
	} {
		if n, e := ExponentSum(c.n, c.w); n != c.want || e != api.OK {
			t.Errorf("ExponentSum(%d, %v) = %d, %d, want %d", c.n, c.w, n, e, c.want)
		}
	}
}

// plainSum counts the letters.
func plainSum(w []int) int {
	n := 0
	for _, x := range w {
		if x > 0 {
			n++
		} else {
			n--
		}
	}
	return n
}

// P8.2: the number of positive letters minus the number of negative ones.
func TestExponentSumFollowsTheDefinition(t *testing.T) {
	for _, c := range samples(api.MaxBraid) {
		if n, e := ExponentSum(c.n, c.w); n != plainSum(c.w) || e != api.OK {
			t.Errorf("ExponentSum(%d, %v) = %d, %d, want %d", c.n, c.w, n, e, plainSum(c.w))
		}
	}
}

// P8.2: Inverse.
func TestInverse(t *testing.T) {
	for _, c := range []struct {
		n       int
		w, want []int
	}{
		{1, nil, nil},
		{6, []int{}, nil},
		{2, []int{1}, []int{-1}},
		{2, []int{-1}, []int{1}},
		{3, []int{1, -2}, []int{2, -1}},
		{3, []int{1, 2, 2}, []int{-2, -2, -1}},
		{6, []int{1, 2, 3, 4, -5}, []int{5, -4, -3, -2, -1}},
		{6, repeat(15, 5, -4), repeat(15, 4, -5)},

		// Adjacent letters that are inverse to each other stay.
		{2, []int{1, -1}, []int{1, -1}},
		{2, []int{-1, 1}, []int{-1, 1}},
		{3, []int{2, 1, -1}, []int{1, -1, -2}},
		{2, repeat(15, 1, -1), repeat(15, 1, -1)},
	} {
		if w, e := Inverse(c.n, c.w); e != api.OK || !slices.Equal(w, c.want) {
			t.Errorf("Inverse(%d, %v) = %v, %d, want %v", c.n, c.w, w, e, c.want)
		}
	}
}

// P8.2: the opposite order and the opposite signs.
func TestInverseFollowsTheDefinition(t *testing.T) {
	for _, c := range samples(api.MaxBraid) {
		var want []int
		for i := len(c.w) - 1; i >= 0; i-- {
			want = append(want, -c.w[i])
		}
		if w, e := Inverse(c.n, c.w); e != api.OK || !slices.Equal(w, want) {
			t.Errorf("Inverse(%d, %v) = %v, %d, want %v", c.n, c.w, w, e, want)
		}
	}
}
