package coloring

import (
	"math"
	"slices"
	"testing"

	"timbrel/api"
)

// P15.1: Propagate.
func TestPropagate(t *testing.T) {
	for _, c := range []struct {
		n       int
		w, c    []int
		modulus int
		want    []int
	}{
		// No letters.
		{1, nil, []int{0}, 1, []int{0}},
		{1, []int{}, []int{12}, 13, []int{12}},
		{6, nil, []int{5, 4, 3, 2, 1, 0}, 6, []int{5, 4, 3, 2, 1, 0}},

		// One letter.
		{2, []int{1}, []int{0, 1}, 3, []int{2, 0}},
		{2, []int{1}, []int{1, 0}, 3, []int{2, 1}},
		{2, []int{-1}, []int{0, 1}, 3, []int{1, 2}},
		{2, []int{-1}, []int{2, 0}, 3, []int{0, 1}},
		{2, []int{1}, []int{12, 0}, 13, []int{11, 12}},
		{2, []int{1}, []int{0, 12}, 13, []int{1, 0}},
		{2, []int{-1}, []int{0, 12}, 13, []int{12, 11}},
		{2, []int{-1}, []int{12, 0}, 13, []int{0, 1}},
		{2, []int{1}, []int{1, 4}, 10, []int{8, 1}},
		{2, []int{-1}, []int{1, 4}, 10, []int{4, 7}},

		// All other positions keep their colors.
		{4, []int{2}, []int{1, 3, 2, 4}, 7, []int{1, 4, 3, 4}},
		{4, []int{-2}, []int{1, 3, 2, 4}, 7, []int{1, 2, 1, 4}},
		{6, []int{5}, []int{1, 2, 3, 4, 5, 6}, 13, []int{1, 2, 3, 4, 4, 5}},
		{6, []int{-5}, []int{1, 2, 3, 4, 5, 6}, 13, []int{1, 2, 3, 4, 6, 7}},
		{6, []int{-1}, []int{1, 2, 3, 4, 5, 6}, 13, []int{2, 3, 3, 4, 5, 6}},

		// From letter to letter.
		{2, []int{1, 1}, []int{0, 1}, 5, []int{3, 4}},
		{2, []int{1, 1, 1}, []int{0, 1}, 3, []int{0, 1}},
		{2, []int{1, 1, 1}, []int{0, 1}, 5, []int{2, 3}},
		{3, []int{1, 2}, []int{0, 1, 2}, 7, []int{6, 5, 0}},
		{3, []int{1, -2}, []int{0, 1, 2}, 7, []int{6, 2, 4}},
		{3, []int{-2, 1}, []int{0, 1, 2}, 7, []int{5, 0, 3}},

		// The smallest moduli.
		{3, []int{1, -2, 2, 2}, []int{0, 0, 0}, 1, []int{0, 0, 0}},
		{3, []int{1, -2}, []int{1, 0, 0}, 2, []int{0, 0, 1}},
	} {
		if l, e := Propagate(c.n, c.w, c.c, c.modulus); e != api.OK || !slices.Equal(l, c.want) {
			t.Errorf("Propagate(%d, %v, %v, %d) = %v, %d, want %v", c.n, c.w, c.c, c.modulus, l, e, c.want)
		}
	}
}

// P15.1: all colors of the two positions of a letter, for all moduli.
func TestPropagateOfLetters(t *testing.T) {
	for modulus := 1; modulus <= api.MaxModulus; modulus++ {
		for a := range modulus {
			for b := range modulus {
				positive := []int{remainder(2*a-b, modulus), a}
				negative := []int{b, remainder(2*b-a, modulus)}
				c := []int{a, b}
				if l := propagated(t, 2, []int{1}, c, modulus); !slices.Equal(l, positive) {
					t.Errorf("Propagate(2, [1], %v, %d) = %v, want %v", c, modulus, l, positive)
				}
				if l := propagated(t, 2, []int{-1}, c, modulus); !slices.Equal(l, negative) {
					t.Errorf("Propagate(2, [-1], %v, %d) = %v, want %v", c, modulus, l, negative)
				}
			}
		}
	}
}

// P15.1: words of all lengths up to MaxBraid, for all moduli.
func TestPropagateFollowsTheDefinition(t *testing.T) {
	var s source
	for _, b := range samples(api.MaxBraid) {
		for modulus := 1; modulus <= api.MaxModulus; modulus++ {
			c := s.colors(b.n, modulus)
			want := plainPropagate(b.w, c, modulus)
			if l := propagated(t, b.n, b.w, c, modulus); !slices.Equal(l, want) {
				t.Errorf("Propagate(%d, %v, %v, %d) = %v, want %v", b.n, b.w, c, modulus, l, want)
			}
		}
	}
}

// P15.1: the inverse word leads back.
func TestPropagateBack(t *testing.T) {
	var s source
	for _, b := range samples(api.MaxBraid) {
		for modulus := 1; modulus <= api.MaxModulus; modulus++ {
			c := s.colors(b.n, modulus)
			end := propagated(t, b.n, b.w, c, modulus)
			if l := propagated(t, b.n, plainInverse(b.w), end, modulus); !slices.Equal(l, c) {
				t.Errorf("Propagate(%d, %v, %v, %d) = %v, but the inverse word leads to %v", b.n, b.w, c, modulus, end, l)
			}
		}
	}
}

// P15.1: a full turn of all n strands. Let s be the sum of the colors with alternating signs, beginning with +. The turn adds 2s to each color x if n is even, and leads to 2s - x if n is odd.
func TestPropagateOfFullTurn(t *testing.T) {
	var s source
	for n := 2; n <= api.MaxStrands; n++ {
		turn := repeat(n, staircase(n)...)
		for modulus := 1; modulus <= api.MaxModulus; modulus++ {
			c := s.colors(n, modulus)
			sum, sign := 0, 1
			for _, x := range c {
				sum += sign * x
				sign = -sign
			}
			var want []int
			for _, x := range c {
				want = append(want, remainder(2*sum+sign*x, modulus))
			}
			if l := propagated(t, n, turn, c, modulus); !slices.Equal(l, want) {
				t.Errorf("Propagate(%d, %v, %v, %d) = %v, want %v", n, turn, c, modulus, l, want)
			}
		}
	}
}

// P15.1: words that are equal as braids lead to the same colors.
func TestPropagateOfEqualBraids(t *testing.T) {
	var s source
	for _, r := range relations() {
		u, v := s.word(r.n, s.below(10)), s.word(r.n, s.below(10))
		a, b := slices.Concat(u, r.a, v), slices.Concat(u, r.b, v)
		for modulus := 1; modulus <= api.MaxModulus; modulus++ {
			c := s.colors(r.n, modulus)
			first, second := propagated(t, r.n, a, c, modulus), propagated(t, r.n, b, c, modulus)
			if !slices.Equal(first, second) {
				t.Errorf("on %d strands, modulo %d: %v leads from %v to %v, but %v leads to %v", r.n, modulus, a, c, first, b, second)
			}
		}
	}
}

// P15.1: the errors of braid.Check and of the modulus, each with colors that have no error.
func TestErrorsOfPropagate(t *testing.T) {
	for _, x := range commonErrors {
		c := make([]int, min(max(x.n, 0), 10))
		l, e := Propagate(x.n, x.w, c, x.modulus)
		if e != x.want || e != api.OK && len(l) != 0 {
			t.Errorf("Propagate(%d, %v, %v, %d) = %v, %d, want error %d", x.n, x.w, c, x.modulus, l, e, x.want)
		}
	}
}

// P15.1: the errors of the colors, and errors that come before them.
func TestErrorsOfColors(t *testing.T) {
	for _, x := range []struct {
		n       int
		w, c    []int
		modulus int
		want    api.Errno
	}{
		// The number of elements.
		{1, nil, nil, 3, api.ErrMalformed},
		{1, nil, []int{0, 0}, 3, api.ErrMalformed},
		{2, []int{1}, []int{0}, 3, api.ErrMalformed},
		{2, []int{1}, []int{0, 1, 2}, 3, api.ErrMalformed},
		{6, nil, make([]int, 5), 13, api.ErrMalformed},
		{6, nil, make([]int, 7), 13, api.ErrMalformed},

		// The elements.
		{1, nil, []int{0}, 1, api.OK},
		{1, nil, []int{1}, 1, api.ErrArgument},
		{1, nil, []int{-1}, 1, api.ErrArgument},
		{2, nil, []int{0, 2}, 3, api.OK},
		{2, nil, []int{0, 3}, 3, api.ErrArgument},
		{2, nil, []int{3, 0}, 3, api.ErrArgument},
		{2, nil, []int{-1, 0}, 3, api.ErrArgument},
		{2, nil, []int{0, -1}, 3, api.ErrArgument},
		{3, []int{1}, []int{12, 12, 12}, 13, api.OK},
		{3, []int{1}, []int{12, 12, 13}, 13, api.ErrArgument},
		{6, nil, []int{0, 0, math.MinInt, 0, 0, 0}, 13, api.ErrArgument},
		{6, nil, []int{0, 0, 0, math.MaxInt, 0, 0}, 13, api.ErrArgument},
		{2, nil, []int{1 << 32, 0}, 13, api.ErrArgument},

		// Several errors: braid.Check, the modulus, the number of elements, the elements.
		{0, nil, []int{0}, 3, api.ErrArgument},
		{2, []int{2}, []int{3}, 14, api.ErrMalformed},
		{2, repeat(31, 1), []int{3}, 3, api.ErrTooLarge},
		{2, repeat(31, 1), []int{0, 3}, 0, api.ErrTooLarge},
		{2, []int{2}, []int{0, 3}, 3, api.ErrMalformed},
		{2, nil, []int{0}, 0, api.ErrArgument},
		{2, nil, []int{0, 0, 0}, 14, api.ErrArgument},
		{2, nil, []int{3}, 3, api.ErrMalformed},
		{2, nil, []int{0, 3, -1}, 3, api.ErrMalformed},
	} {
		l, e := Propagate(x.n, x.w, x.c, x.modulus)
		if e != x.want || e != api.OK && len(l) != 0 {
			t.Errorf("Propagate(%d, %v, %v, %d) = %v, %d, want error %d", x.n, x.w, x.c, x.modulus, l, e, x.want)
		}
	}
}
