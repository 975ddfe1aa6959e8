package artin

import (
	"slices"
	"testing"

	"timbrel/api"
	"timbrel/braid"
)

// checkEqual compares two words, in both orders.
func checkEqual(t *testing.T, n int, a, b []int, want bool) {
	t.Helper()
	if is, e := Equal(n, a, b); e != api.OK || is != want {
		t.Errorf("Equal(%d, %v, %v) = %v, %d, want %v", n, a, b, is, e, want)
	}
	if is, e := Equal(n, b, a); e != api.OK || is != want {
		t.Errorf("Equal(%d, %v, %v) = %v, %d, want %v", n, b, a, is, e, want)
	}
}

// P9.2: Equal.
func TestEqual(t *testing.T) {
	for _, c := range []struct {
		n    int
		a, b []int
		want bool
	}{
		{1, nil, nil, true},
		{1, nil, []int{}, true},
		{6, nil, nil, true},
		{2, []int{1}, []int{1}, true},
		{2, []int{1}, []int{-1}, false},
		{2, []int{1}, nil, false},
		{2, []int{1, 1}, nil, false},
		{2, []int{1, -1}, nil, true},
		{2, []int{-1, 1}, nil, true},
		{2, []int{1, 1, -1}, []int{1}, true},
		{2, []int{1, 1, 1}, []int{1}, false},
		{2, repeat(30, 1), repeat(30, 1), true},
		{2, repeat(30, 1), repeat(29, 1), false},
		{2, repeat(30, 1), repeat(30, -1), false},
		{2, repeat(15, 1, -1), nil, true},

		{3, []int{1}, []int{2}, false},
		{3, []int{1, 2}, []int{2, 1}, false},
		{3, []int{1, 2, 1}, []int{2, 1, 2}, true},
		{3, []int{-1, -2, -1}, []int{-2, -1, -2}, true},
		{3, []int{1, -2, 1}, []int{-2, 1, -2}, false},
		{3, []int{1, 2, -1}, []int{-2, 1, 2}, true},
		{3, []int{1, 2, -1}, []int{2, 1, -2}, false},
		{3, []int{1, 1, 2}, []int{2, 1, 1}, false},
		{3, repeat(3, 1, 2), repeat(3, 2, 1), true},
		{3, repeat(2, 1, 2, 1), repeat(3, 1, 2), true},
		{3, repeat(2, 1, 2), repeat(2, 2, 1), false},
		{3, slices.Concat(growing, plainInverse(growing)), nil, true},
		{3, slices.Concat(growing, plainInverse(growing)), []int{1, -2}, false},
		{3, fitting, fitting, true},
		{3, fitting, append(slices.Clone(fitting), 2, -2), true},

		{4, []int{1, 3}, []int{3, 1}, true},
		{4, []int{1, -3}, []int{-3, 1}, true},
		{4, []int{1, 3}, []int{1, -3}, false},
		{4, []int{1, 2, 3, 1, 2, 1}, []int{3, 2, 1, 3, 2, 3}, true},
		{4, []int{1, 2, 3}, []int{3, 2, 1}, false},
		{6, []int{1, 5, 3}, []int{3, 1, 5}, true},
		{6, repeat(6, 1, 2, 3, 4, 5), repeat(6, 5, 4, 3, 2, 1), true},
		{6, repeat(5, 1, 2, 3, 4, 5), repeat(5, 5, 4, 3, 2, 1), false},
	} {
		checkEqual(t, c.n, c.a, c.b, c.want)
	}
}

// relation is a pair of words that are equal as braids.
type relation struct {
	n    int
	a, b []int
}

// relations returns the relations of all letters, and the pairs of inverse letters.
func relations() []relation {
	var all []relation
	for n := 2; n <= api.MaxStrands; n++ {
		for _, x := range letters(n) {
			all = append(all, relation{n, []int{x, -x}, nil})
			for _, y := range letters(n) {
				switch distance := max(x, -x) - max(y, -y); {
				case distance < -1 || distance > 1:
					all = append(all, relation{n, []int{x, y}, []int{y, x}})
				case distance != 0 && x*y > 0:
					all = append(all, relation{n, []int{x, y, x}, []int{y, x, y}})
					all = append(all, relation{n, []int{x, y, -x}, []int{-y, x, y}})
				}
			}
		}
	}
	return all
}

// P9.2: words that a relation transforms into each other are equal, in the middle of other letters too.
func TestEqualByRelations(t *testing.T) {
	var s source
	for _, r := range relations() {
		checkEqual(t, r.n, r.a, r.b, true)
		u, v := s.word(r.n, s.below(6)), s.word(r.n, s.below(6))
		a, b := slices.Concat(u, r.a, v), slices.Concat(u, r.b, v)
		checkEqual(t, r.n, a, b, true)
		checkEqual(t, r.n, a, append(b, 1), false)
	}
}

// P9.2: adjacent generators do not commute, and a letter differs from its inverse.
func TestDifferentLetters(t *testing.T) {
	for n := 2; n <= api.MaxStrands; n++ {
		for _, x := range letters(n) {
			checkEqual(t, n, []int{x}, nil, false)
			for _, y := range letters(n) {
				checkEqual(t, n, []int{x}, []int{y}, x == y)
				distance := max(x, -x) - max(y, -y)
				checkEqual(t, n, []int{x, y}, []int{y, x}, distance != 1 && distance != -1)
			}
		}
	}
}

// key is the word's Burau matrix as a text.
func key(t *testing.T, n int, w []int) string {
	t.Helper()
	m, e := braid.Burau(n, w)
	if e != api.OK {
		t.Fatalf("Burau(%d, %v): error %d", n, w, e)
	}
	return text(m)
}

// P9.2: on up to 3 strands, words are equal as braids if and only if their Burau matrices are.
func TestEqualAgreesWithBurau(t *testing.T) {
	for n := 1; n <= 3; n++ {
		for _, a := range words(n, 4) {
			for _, b := range words(n, 3) {
				checkEqual(t, n, a, b, key(t, n, a) == key(t, n, b))
			}
		}
	}
}

// P9.2: words that are equal as braids have equal Burau matrices.
func TestEqualWordsHaveEqualBurauMatrices(t *testing.T) {
	count := 0
	for n := 4; n <= 5; n++ {
		all := words(n, 3)
		for i, a := range all {
			for _, b := range all[:i] {
				is, e := Equal(n, a, b)
				if e != api.OK || is && key(t, n, a) != key(t, n, b) {
					t.Errorf("Equal(%d, %v, %v) = %v, %d", n, a, b, is, e)
				}
				if is {
					count++
				}
			}
		}
	}
	if count == 0 {
		t.Error("no equal words")
	}
}

// P9.2: a word and its inverse one after the other are equal to the empty word.
func TestEqualOfInverse(t *testing.T) {
	for _, c := range samples(10) {
		inverse, _ := braid.Inverse(c.n, c.w)
		checkEqual(t, c.n, slices.Concat(c.w, inverse), nil, true)
		checkEqual(t, c.n, slices.Concat(inverse, c.w), nil, true)
	}
}

// P9.2: the full twist commutes with every letter.
func TestFullTwistIsCentral(t *testing.T) {
	for n := 2; n <= 5; n++ {
		var turn []int
		for i := 1; i < n; i++ {
			turn = append(turn, i)
		}
		twist := repeat(n, turn...)
		for _, x := range letters(n) {
			checkEqual(t, n, slices.Concat(twist, []int{x}), slices.Concat([]int{x}, twist), true)
		}
		checkEqual(t, n, twist, nil, false)
	}
}

// P9.2: the errors of Images for a come first, then those for b.
func TestErrorsOfEqual(t *testing.T) {
	good := []braidCase{{2, nil}, {3, []int{1}}, {6, nil}, {3, fitting}}
	for _, c := range errorCases {
		for _, g := range good {
			if e := braid.Check(c.n, g.w); e != api.OK {
				continue
			}
			checkError(t, c.n, c.w, g.w, c.want)
			checkError(t, c.n, g.w, c.w, c.want)
		}
		checkError(t, c.n, c.w, c.w, c.want)
	}
	for _, c := range errorCases {
		for _, d := range errorCases {
			if c.n == d.n {
				checkError(t, c.n, c.w, d.w, c.want)
			}
		}
	}
}

// P9.2: an image that is too large is an error even if another rule decides about equality.
func TestErrorsOfEqualForLargeImages(t *testing.T) {
	trivial := slices.Concat(plainInverse(growing), growing)
	for _, c := range []struct {
		n    int
		a, b []int
		want api.Errno
	}{
		{3, trivial, nil, api.ErrTooLarge},
		{3, nil, trivial, api.ErrTooLarge},
		{3, trivial, trivial, api.ErrTooLarge},
		{3, exceeding, exceeding, api.ErrTooLarge},
		{3, exceeding, []int{1}, api.ErrTooLarge},
		{3, exceeding, []int{3}, api.ErrTooLarge},
		{3, []int{3}, exceeding, api.ErrMalformed},
		{3, exceeding, repeat(31, 1), api.ErrTooLarge},
		{3, []int{1}, []int{0}, api.ErrMalformed},
	} {
		checkError(t, c.n, c.a, c.b, c.want)
	}
}

func checkError(t *testing.T, n int, a, b []int, want api.Errno) {
	t.Helper()
	if is, e := Equal(n, a, b); is || e != want {
		t.Errorf("Equal(%d, %v, %v) = %v, %d, want error %d", n, a, b, is, e, want)
	}
}
