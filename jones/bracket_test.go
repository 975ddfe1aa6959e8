package jones

import (
	"slices"
	"testing"

	"timbrel/api"
	"timbrel/laurent"
)

// P13.1: Bracket.
func TestBracket(t *testing.T) {
	for _, c := range []struct {
		n    int
		w    []int
		want terms
	}{
		{1, nil, terms{0: 1}},
		{1, []int{}, terms{0: 1}},
		{2, nil, terms{2: -1, -2: -1}},
		{3, nil, terms{4: 1, 0: 2, -4: 1}},
		{6, nil, terms{10: -1, 6: -5, 2: -10, -2: -10, -6: -5, -10: -1}},

		{2, []int{1}, terms{3: -1}},
		{2, []int{-1}, terms{-3: -1}},
		{3, []int{1}, terms{5: 1, 1: 1}},
		{3, []int{-2}, terms{-5: 1, -1: 1}},
		{3, []int{1, 2}, terms{6: 1}},
		{3, []int{1, -2}, terms{0: 1}},
		{6, []int{1, 2, 3, 4, 5}, terms{15: -1}},

		// Loops that result on the way.
		{2, []int{1, 1}, terms{4: -1, -4: -1}},
		{2, []int{-1, -1}, terms{4: -1, -4: -1}},
		{2, []int{1, -1}, terms{2: -1, -2: -1}},
		{2, []int{1, 1, 1}, terms{-7: 1, -3: -1, 5: -1}},
		{2, []int{-1, -1, -1}, terms{7: 1, 3: -1, -5: -1}},
		{3, []int{1, -2, 1, -2}, terms{8: 1, 4: -1, 0: 1, -4: -1, -8: 1}},

		// MaxBracket letters.
		{2, repeat(6, 1, -1), terms{2: -1, -2: -1}},
		{6, repeat(6, 3, -3), terms{10: -1, 6: -5, 2: -10, -2: -10, -6: -5, -10: -1}},
		{2, repeat(12, 1), terms{14: -1, 6: -1, 2: 1, -2: -1, -6: 1, -10: -1, -14: 1, -18: -1, -22: 1, -26: -1, -30: 1, -34: -1}},
	} {
		if p, e := Bracket(c.n, c.w); e != api.OK || !same(p, c.want.poly()) {
			t.Errorf("Bracket(%d, %v) = %v, %d, want %v", c.n, c.w, p, e, c.want)
		}
	}
}

// longWords returns words of MaxBracket letters.
func longWords() []braidCase {
	var s source
	all := []braidCase{{3, repeat(6, 1, -2)}, {3, repeat(6, 1, 2)}, {4, repeat(3, 1, -2, 3, -2)}, {5, repeat(3, 1, 2, 3, 4)}, {6, repeat(3, 1, -2, -4, 5)}}
	for n := 2; n <= api.MaxStrands; n++ {
		for _, x := range letters(n) {
			all = append(all, braidCase{n, repeat(12, x)})
		}
		for range 4 {
			all = append(all, braidCase{n, s.word(n, 12)})
		}
	}
	return all
}

// P13.1: the sum over all choices.
func TestBracketFollowsTheDefinition(t *testing.T) {
	for _, c := range append(samples(10), longWords()...) {
		want := plainBracket(c.n, c.w)
		if p := bracket(t, c.n, c.w); !same(p, want.poly()) {
			t.Errorf("Bracket(%d, %v) = %v, want %v", c.n, c.w, p, want)
		}
	}
}

// P13.1: the bracket of a letter at a place follows from those of both choices for it: those of i and -i differ by the weights, so that A <.. i ..> - A^-1 <.. -i ..> is A^2 - A^-2 times the bracket without the letter.
func TestBracketOfOppositeLetters(t *testing.T) {
	for _, c := range samples(8) {
		for k, x := range c.w {
			i := plainIndex(x)
			without := slices.Concat(c.w[:k], c.w[k+1:])
			positive, negative := slices.Clone(c.w), slices.Clone(c.w)
			positive[k], negative[k] = i, -i
			got := termsOf(bracket(t, c.n, positive)).times(1, 1).plus(termsOf(bracket(t, c.n, negative)).times(-1, -1))
			b := termsOf(bracket(t, c.n, without))
			if want := b.times(1, 2).plus(b.times(-1, -2)); !same(got.poly(), want.poly()) {
				t.Errorf("on %d strands: the brackets of %v, %v and %v do not fit", c.n, positive, negative, without)
			}
		}
	}
}

// P13.1: a further strand without letters is a further loop in every choice.
func TestBracketOfFurtherStrand(t *testing.T) {
	for _, c := range samples(api.MaxBracket) {
		if c.n == api.MaxStrands {
			continue
		}
		var shifted []int
		for _, x := range c.w {
			shifted = append(shifted, x+x/plainIndex(x))
		}
		want := termsOf(bracket(t, c.n, c.w)).ofLoops(1).poly()
		for _, w := range [][]int{c.w, shifted} {
			if p := bracket(t, c.n+1, w); !same(p, want) {
				t.Errorf("Bracket(%d, %v) = %v, want %v", c.n+1, w, p, want)
			}
		}
	}
}

// P13.1: a letter on a further strand multiplies by -A^3 or -A^-3.
func TestBracketOfTwist(t *testing.T) {
	for _, c := range samples(api.MaxBracket - 1) {
		if c.n == api.MaxStrands {
			continue
		}
		b := termsOf(bracket(t, c.n, c.w))
		for _, sign := range []int{1, -1} {
			w := append(slices.Clone(c.w), sign*c.n)
			want := b.times(-1, 3*sign).poly()
			if p := bracket(t, c.n+1, w); !same(p, want) {
				t.Errorf("Bracket(%d, %v) = %v, want %v", c.n+1, w, p, want)
			}
		}
	}
}

// P13.1: words that are equal as braids have equal brackets, and so have words one of which begins where the other one goes on.
func TestBracketOfEqualBraids(t *testing.T) {
	var s source
	for _, r := range relations() {
		u, v := s.word(r.n, s.below(5)), s.word(r.n, s.below(5))
		first, second, third := slices.Concat(u, r.a, v), slices.Concat(u, r.b, v), slices.Concat(v, u, r.a)
		p := bracket(t, r.n, first)
		for _, w := range [][]int{second, third} {
			if q := bracket(t, r.n, w); !same(p, q) {
				t.Errorf("on %d strands: the bracket of %v is %v, but of %v it is %v", r.n, first, p, w, q)
			}
		}
	}
}

// P13.1: opposite signs of all letters exchange A and A^-1, and the opposite order changes nothing.
func TestBracketOfMirrorImage(t *testing.T) {
	for _, c := range append(samples(api.MaxBracket), longWords()...) {
		opposite := slices.Clone(c.w)
		for i := range opposite {
			opposite[i] = -opposite[i]
		}
		backward := slices.Clone(c.w)
		slices.Reverse(backward)
		p := bracket(t, c.n, c.w)
		want, _ := laurent.Conjugate(p)
		if q := bracket(t, c.n, opposite); !same(q, want) {
			t.Errorf("Bracket(%d, %v) = %v, want %v", c.n, opposite, q, want)
		}
		if q := bracket(t, c.n, backward); !same(q, p) {
			t.Errorf("Bracket(%d, %v) = %v, want %v", c.n, backward, q, p)
		}
	}
}

// P13.1: the errors of braid.Check, then ErrTooLarge if there are more than MaxBracket letters.
func TestErrorsOfBracket(t *testing.T) {
	for _, c := range errorCases {
		p, e := Bracket(c.n, c.w)
		if e != c.want || e != api.OK && (p.Low != 0 || len(p.C) != 0) {
			t.Errorf("Bracket(%d, %v) = %v, %d, want error %d", c.n, c.w, p, e, c.want)
		}
	}
}
