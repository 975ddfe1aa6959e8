package dehornoy

import (
	"slices"
	"testing"

	"timbrel/api"
	"timbrel/garside"
)

// P11.2: Sign.
func TestSign(t *testing.T) {
	for _, c := range []struct {
		n    int
		w    []int
		want int
	}{
		{1, nil, 0},
		{1, []int{}, 0},
		{6, nil, 0},
		{2, []int{1}, 1},
		{2, []int{-1}, -1},
		{2, []int{1, -1}, 0},
		{2, repeat(30, 1), 1},
		{2, repeat(30, -1), -1},
		{6, []int{5}, 1},
		{6, []int{-5}, -1},

		// The smallest index decides, not the first letter and not the most letters.
		{3, []int{-2, 1}, 1},
		{3, []int{2, -1}, -1},
		{3, []int{1, -2}, 1},
		{3, append(repeat(29, -2), 1), 1},
		{3, append(repeat(29, 2), -1), -1},
		{6, []int{-5, -4, 3, -4, -5}, 1},
		{6, []int{5, 4, -3, 4, 5}, -1},

		// The word is reduced before.
		{3, []int{2, -1, -2}, -1},
		{3, []int{1, 2, -1}, 1},
		{3, []int{1, -2, -1}, -1},
		{3, []int{-1, 2, 1}, 1},
		{3, []int{-1, 1, -2}, -1},
		{4, []int{1, -3, -1}, -1},
		{4, []int{-1, 3, 1}, 1},
		{3, []int{1, 2, 1, -2, -1, -2}, 0},
		{3, []int{1, 2, 1, -2, -1, -2, -2}, -1},
		{4, []int{1, 3, -1, -3}, 0},
	} {
		if s, e := Sign(c.n, c.w); e != api.OK || s != c.want {
			t.Errorf("Sign(%d, %v) = %d, %d, want %d", c.n, c.w, s, e, c.want)
		}
	}
}

// P11.2: the letters with the smallest index of the reduced word all have this sign.
func TestSignFollowsTheDefinition(t *testing.T) {
	for _, c := range samples(api.MaxBraid) {
		if got, want := signOf(t, c.n, c.w), plainSign(t, reduce(t, c.n, c.w)); got != want {
			t.Errorf("Sign(%d, %v) = %d, want %d", c.n, c.w, got, want)
		}
	}
}

// P11.2: the sign is 0 for the braid 1 only.
func TestOnlyTheIdentityHasNoSign(t *testing.T) {
	for _, c := range samples(api.MaxBraid) {
		if is, e := garside.Equal(c.n, c.w, nil); e != api.OK || is != (signOf(t, c.n, c.w) == 0) {
			t.Errorf("Sign(%d, %v) = %d, but being 1 is %v, %d", c.n, c.w, signOf(t, c.n, c.w), is, e)
		}
	}
}

// P11.2: the inverse braid has the opposite sign.
func TestSignOfInverse(t *testing.T) {
	for _, c := range samples(api.MaxBraid) {
		inverse := plainInverse(c.w)
		if got, want := signOf(t, c.n, inverse), -signOf(t, c.n, c.w); got != want {
			t.Errorf("Sign(%d, %v) = %d, want %d", c.n, inverse, got, want)
		}
	}
}

// P11.2: words that are equal as braids have the same sign.
func TestSignByRelations(t *testing.T) {
	var s source
	for _, r := range relations() {
		for length := range 28 {
			u, v := s.word(r.n, length), s.word(r.n, 27-length)
			a, b := slices.Concat(u, r.a, v), slices.Concat(u, r.b, v)
			if p, q := signOf(t, r.n, a), signOf(t, r.n, b); p != q {
				t.Errorf("on %d strands: the sign of %v is %d, but that of %v is %d", r.n, a, p, b, q)
			}
		}
	}
}

// P11.2: the word that package garside has for a braid has the same sign.
func TestSignOfNormalForms(t *testing.T) {
	count := 0
	for _, c := range samples(12) {
		if c.n == 1 {
			continue
		}
		power, factors, _ := garside.NormalForm(c.n, c.w)
		w, e := garside.Word(c.n, power, factors)
		if e != api.OK {
			continue
		}
		count++
		if got, want := signOf(t, c.n, w), signOf(t, c.n, c.w); got != want {
			t.Errorf("on %d strands: the sign of %v is %d, but that of %v is %d", c.n, w, got, c.w, want)
		}
	}
	if count < 300 {
		t.Error("only", count, "words were compared")
	}
}

// P11.2: the braids with the sign 1 include those with positive letters only, their conjugates, and products.
func TestPositiveBraids(t *testing.T) {
	var s source
	for n := 2; n <= api.MaxStrands; n++ {
		for length := range 14 {
			u, v := s.word(n, length), s.word(n, 13)
			for i := 1; i < n; i++ {
				if w := slices.Concat(u, []int{i}, plainInverse(u)); signOf(t, n, w) != 1 {
					t.Errorf("Sign(%d, %v) = %d", n, w, signOf(t, n, w))
				}
			}
			if w := slices.Concat(u, v); signOf(t, n, u) == 1 && signOf(t, n, v) == 1 && signOf(t, n, w) != 1 {
				t.Errorf("Sign(%d, %v) = %d", n, w, signOf(t, n, w))
			}
			if w := slices.Concat(u, v); signOf(t, n, u) == -1 && signOf(t, n, v) == -1 && signOf(t, n, w) != -1 {
				t.Errorf("Sign(%d, %v) = %d", n, w, signOf(t, n, w))
			}
		}
	}
}

// P11.2: the error of braid.Check.
func TestErrorsOfSign(t *testing.T) {
	for _, c := range errorCases {
		if s, e := Sign(c.n, c.w); e != c.want || s != 0 {
			t.Errorf("Sign(%d, %v) = %d, %d, want error %d", c.n, c.w, s, e, c.want)
		}
	}
}
