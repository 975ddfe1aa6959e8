package garside

import (
	"math"
	"slices"
	"testing"

	"timbrel/api"
	"timbrel/braid"
)

// P10.3: Word.
func TestWord(t *testing.T) {
	for _, c := range []struct {
		n, power int
		factors  [][]int
		want     []int
	}{
		{2, 0, nil, nil},
		{6, 0, [][]int{}, nil},
		{2, 1, nil, []int{1}},
		{2, -1, nil, []int{-1}},
		{2, 3, nil, []int{1, 1, 1}},
		{2, 30, nil, repeat(30, 1)},
		{2, -30, nil, repeat(30, -1)},

		{3, 1, nil, []int{1, 2, 1}},
		{3, -1, nil, []int{-1, -2, -1}},
		{3, 2, nil, []int{1, 2, 1, 1, 2, 1}},
		{3, 0, [][]int{a}, []int{1}},
		{3, 0, [][]int{b}, []int{2}},
		{3, 0, [][]int{ab}, []int{1, 2}},
		{3, 0, [][]int{ba}, []int{2, 1}},
		{3, -1, [][]int{ab}, []int{-1, -2, -1, 1, 2}},
		{3, 1, [][]int{ab, b}, []int{1, 2, 1, 1, 2, 2}},
		{3, -2, [][]int{b, ba}, []int{-1, -2, -1, -1, -2, -1, 2, 2, 1}},
		{3, 10, nil, repeat(10, 1, 2, 1)},
		{3, -10, nil, repeat(10, -1, -2, -1)},
		{3, 9, [][]int{a, a, a}, append(repeat(9, 1, 2, 1), 1, 1, 1)},
		{3, 0, copies(30, a), repeat(30, 1)},

		// The smallest i comes first, and the inverse of the half twist is its word backwards.
		{4, 1, nil, []int{1, 2, 1, 3, 2, 1}},
		{4, -1, nil, []int{-1, -2, -3, -1, -2, -1}},
		{4, 0, [][]int{{1, 0, 3, 2}}, []int{1, 3}},
		{4, 0, [][]int{{3, 0, 1, 2}}, []int{1, 2, 3}},
		{4, 0, [][]int{{1, 2, 3, 0}}, []int{3, 2, 1}},
		{4, 0, [][]int{{2, 3, 0, 1}}, []int{2, 1, 3, 2}},
		{4, 0, [][]int{{3, 2, 0, 1}}, []int{1, 2, 1, 3, 2}},
		{6, 1, [][]int{{0, 1, 2, 3, 5, 4}}, []int{1, 2, 1, 3, 2, 1, 4, 3, 2, 1, 5, 4, 3, 2, 1, 5}},
		{6, -2, nil, repeat(2, -1, -2, -3, -4, -5, -1, -2, -3, -4, -1, -2, -3, -1, -2, -1)},
	} {
		if w, e := Word(c.n, c.power, c.factors); e != api.OK || !slices.Equal(w, c.want) {
			t.Errorf("Word(%d, %d, %v) = %v, %d, want %v", c.n, c.power, c.factors, w, e, c.want)
		}
	}
}

// P10.3: all short normal forms, which have words of up to 30 letters or more.
func TestWordFollowsTheDefinition(t *testing.T) {
	for _, c := range []struct{ n, most, length int }{{2, 32, 0}, {3, 12, 5}, {4, 6, 2}, {5, 4, 1}, {6, 3, 1}} {
		for _, f := range formsOf(c.n, c.most, c.length) {
			want, wantError := plainFormWord(c.n, f), api.OK
			if len(want) > 30 {
				want, wantError = nil, api.ErrTooLarge
			}
			if w, e := Word(c.n, f.power, f.factors); e != wantError || !slices.Equal(w, want) {
				t.Fatalf("Word(%d, %d, %v) = %v, %d, want %v, %d", c.n, f.power, f.factors, w, e, want, wantError)
			}
		}
	}
}

// P10.3: the word of a permutation is that of its permutation braid: it has this permutation and one letter for each pair of strands that cross.
func TestWordOfPermutationBraid(t *testing.T) {
	for n := 3; n <= api.MaxStrands; n++ {
		for _, p := range properOnes(n) {
			w, e := Word(n, 0, [][]int{p})
			if e != api.OK {
				t.Fatalf("Word(%d, 0, [%v]): error %d", n, p, e)
			}
			pairs := 0
			for i := range p {
				for j := range i {
					if p[j] > p[i] {
						pairs++
					}
				}
			}
			q, _ := braid.Permutation(n, w)
			if !slices.Equal(p, q) || len(w) != pairs || slices.Min(w) < 1 {
				t.Errorf("Word(%d, 0, [%v]) = %v", n, p, w)
			}
		}
	}
}

// P10.3: the word of a normal form is equal to the word that it came from.
func TestWordOfNormalForm(t *testing.T) {
	count := 0
	for _, c := range samples(api.MaxBraid) {
		if c.n == 1 {
			continue
		}
		f := normalForm(t, c.n, c.w)
		w, e := Word(c.n, f.power, f.factors)
		if e != api.OK {
			continue
		}
		checkEqual(t, c.n, w, c.w, true)
		if len(c.w) > 0 {
			count++
		}
	}
	if count < 300 {
		t.Error("only", count, "words were compared")
	}
}

var wordErrors = []struct {
	n, power int
	factors  [][]int
	want     api.Errno
}{
	// The power.
	{2, 31, nil, api.ErrTooLarge},
	{2, -31, nil, api.ErrTooLarge},
	{3, math.MaxInt, nil, api.ErrTooLarge},
	{3, math.MinInt, nil, api.ErrTooLarge},
	{3, math.MinInt + 1, [][]int{a}, api.ErrTooLarge},
	{6, 1 << 32, nil, api.ErrTooLarge},
	{6, -1 << 62, nil, api.ErrTooLarge},

	// The length of the word.
	{3, 11, nil, api.ErrTooLarge},
	{3, -11, nil, api.ErrTooLarge},
	{3, 10, [][]int{a}, api.ErrTooLarge},
	{3, -10, [][]int{a}, api.ErrTooLarge},
	{3, 30, nil, api.ErrTooLarge},
	{3, 1, copies(30, a), api.ErrTooLarge},
	{3, 0, append(copies(29, a), ab), api.ErrTooLarge},
	{4, 6, nil, api.ErrTooLarge},
	{6, 3, nil, api.ErrTooLarge},
	{6, -30, nil, api.ErrTooLarge},
	{6, 2, [][]int{{0, 1, 2, 3, 5, 4}}, api.ErrTooLarge},

	// Several errors: those of Check come first.
	{1, math.MaxInt, nil, api.ErrArgument},
	{7, 31, nil, api.ErrArgument},
	{0, 1, copies(31, a), api.ErrArgument},
	{3, 31, [][]int{{0, 1, 2}}, api.ErrMalformed},
	{3, math.MinInt, [][]int{a, b}, api.ErrMalformed},
	{3, 31, [][]int{{0, 0, 2}}, api.ErrExists},
	{3, -31, [][]int{{0, 1, 3}}, api.ErrArgument},
	{3, 11, [][]int{{0, 0, 2}}, api.ErrExists},
	{6, 30, [][]int{{5, 4, 3, 2, 1, 0}}, api.ErrMalformed},
}

// P10.3: the limits.
func TestErrorsOfWord(t *testing.T) {
	for _, c := range wordErrors {
		if w, e := Word(c.n, c.power, c.factors); e != c.want || len(w) > 0 {
			t.Errorf("Word(%d, %d, %v) = %v, %d, want error %d", c.n, c.power, c.factors, w, e, c.want)
		}
	}
}

// P10.3: the errors of Check, whatever the power is.
func TestErrorOfCheckInWord(t *testing.T) {
	for _, c := range checkCases {
		for _, power := range []int{0, 1, -1, 30, -30, 31, -31, math.MinInt, math.MaxInt} {
			w, e := Word(c.n, power, c.factors)
			if c.want != api.OK && (e != c.want || len(w) > 0) {
				t.Errorf("Word(%d, %d, %v) = %v, %d, want error %d", c.n, power, c.factors, w, e, c.want)
			}
			if c.want == api.OK && power == 0 && e != api.OK {
				t.Errorf("Word(%d, %d, %v): error %d", c.n, power, c.factors, e)
			}
		}
	}
}
