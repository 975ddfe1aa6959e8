package dehornoy

import (
	"slices"
	"testing"

	"timbrel/api"
	"timbrel/braid"
	"timbrel/garside"
)

// P11.3: Compare.
func TestCompare(t *testing.T) {
	for _, c := range []struct {
		n    int
		a, b []int
		want int
	}{
		{1, nil, nil, 0},
		{1, nil, []int{}, 0},
		{6, nil, nil, 0},
		{2, nil, []int{1}, -1},
		{2, nil, []int{-1}, 1},
		{2, []int{1}, []int{1}, 0},
		{2, []int{1}, []int{-1}, 1},
		{2, []int{1}, []int{1, 1}, -1},
		{2, []int{1, -1}, nil, 0},

		// A generator is greater than any power of the next one.
		{3, []int{2}, []int{1}, -1},
		{6, []int{4}, []int{5}, 1},
		{3, repeat(30, 2), []int{1}, -1},
		{3, repeat(30, -2), []int{-1}, 1},
		{3, repeat(30, 2), append([]int{1}, repeat(29, -2)...), -1},
		{6, repeat(30, 5), []int{4}, -1},
		{6, repeat(30, 1), repeat(30, 5), 1},

		// Words that are equal as braids.
		{3, []int{1, 2, 1}, []int{2, 1, 2}, 0},
		{3, []int{1, 2, -1}, []int{-2, 1, 2}, 0},
		{4, []int{1, -3}, []int{-3, 1}, 0},
		{3, repeat(15, 1, 2), repeat(15, 2, 1), 0},
		{6, repeat(6, 1, 2, 3, 4, 5), repeat(6, 5, 4, 3, 2, 1), 0},

		// The inverse of a comes before b: the other product has the other sign.
		{3, []int{1}, []int{2, 1}, -1},
		{3, []int{1}, []int{-2, 1}, 1},
		{3, []int{1, 2}, []int{2, 1}, -1},
		{3, []int{1, 2, 2}, []int{2, 1}, -1},
		{3, []int{2, 1, 1}, []int{1, 2}, 1},
		{3, []int{-1}, []int{-1, 2}, -1},
		{3, []int{2, -1}, []int{-1}, 1},

		// The longest words.
		{2, repeat(30, 1), repeat(30, 1), 0},
		{2, repeat(30, 1), repeat(30, -1), 1},
		{2, repeat(30, -1), repeat(30, 1), -1},
		{2, repeat(30, 1), repeat(29, 1), 1},
		{3, repeat(15, 1, -2), repeat(15, 1, -2), 0},
		{3, repeat(15, 1, -2), repeat(15, -2, 1), 1},
	} {
		if k := compare(t, c.n, c.a, c.b); k != c.want {
			t.Errorf("Compare(%d, %v, %v) = %d, want %d", c.n, c.a, c.b, k, c.want)
		}
	}
}

// P11.3: the sign of the inverse of a followed by b decides, however long it is.
func TestCompareFollowsTheDefinition(t *testing.T) {
	var s source
	for n := 2; n <= api.MaxStrands; n++ {
		for length := range api.MaxBraid + 1 {
			for range 3 {
				a, b := s.word(n, length), s.word(n, s.below(api.MaxBraid+1))
				want := -plainSign(t, plainReduce(slices.Concat(plainInverse(a), b)))
				if k := compare(t, n, a, b); k != want {
					t.Errorf("Compare(%d, %v, %v) = %d, want %d", n, a, b, k, want)
				}
			}
		}
	}
}

// P11.3: all pairs of short words, by the sign.
func TestCompareOfShortWords(t *testing.T) {
	for _, c := range []struct{ n, length int }{{1, 0}, {2, 5}, {3, 4}, {4, 2}, {5, 2}, {6, 2}} {
		for _, a := range words(c.n, c.length) {
			for _, b := range words(c.n, c.length) {
				want := -signOf(t, c.n, slices.Concat(plainInverse(a), b))
				if k := compare(t, c.n, a, b); k != want {
					t.Errorf("Compare(%d, %v, %v) = %d, want %d", c.n, a, b, k, want)
				}
			}
		}
	}
}

// P11.3: a word with 1 is compared by its sign.
func TestCompareWithTheIdentity(t *testing.T) {
	for _, c := range samples(api.MaxBraid) {
		if got, want := compare(t, c.n, c.w, nil), signOf(t, c.n, c.w); got != want {
			t.Errorf("Compare(%d, %v, []) = %d, want %d", c.n, c.w, got, want)
		}
		if k := compare(t, c.n, c.w, c.w); k != 0 {
			t.Errorf("Compare(%d, %v, %v) = %d", c.n, c.w, c.w, k)
		}
	}
}

// P11.3: package garside decides in the same way whether words are equal as braids.
func TestCompareAgreesWithGarside(t *testing.T) {
	for _, c := range []struct{ n, length int }{{1, 0}, {2, 5}, {3, 4}, {4, 2}, {5, 2}, {6, 2}} {
		for _, a := range words(c.n, c.length) {
			for _, b := range words(c.n, c.length) {
				is, e := garside.Equal(c.n, a, b)
				if k := compare(t, c.n, a, b); e != api.OK || is != (k == 0) {
					t.Errorf("Compare(%d, %v, %v) = %d, but being equal is %v, %d", c.n, a, b, k, is, e)
				}
			}
		}
	}
}

// P11.3: long words that a relation transforms into each other are equal, and with one more letter greater.
func TestCompareByRelations(t *testing.T) {
	var s source
	for _, r := range relations() {
		for length := 0; length <= 26; length += 2 {
			u, v := s.word(r.n, length), s.word(r.n, 26-length)
			a, b := slices.Concat(u, r.a, v), slices.Concat(u, r.b, v)
			if k := compare(t, r.n, a, b); k != 0 {
				t.Errorf("Compare(%d, %v, %v) = %d", r.n, a, b, k)
			}
			for i := 1; i < r.n; i++ {
				if k := compare(t, r.n, a, append(slices.Clone(b), i)); k != -1 {
					t.Errorf("Compare(%d, %v, %v with %d) = %d", r.n, a, b, i, k)
				}
				if k := compare(t, r.n, a, append(slices.Clone(b), -i)); k != 1 {
					t.Errorf("Compare(%d, %v, %v with %d) = %d", r.n, a, b, -i, k)
				}
			}
		}
	}
}

// P11.3: of three braids, a smaller one than a smaller one is smaller; after sorting, all pairs are in order.
func TestCompareIsAnOrder(t *testing.T) {
	for n := 2; n <= api.MaxStrands; n++ {
		var s source
		all := words(n, 1)
		for range 40 {
			all = append(all, s.word(n, s.below(api.MaxBraid+1)))
		}
		slices.SortFunc(all, func(a, b []int) int { return compare(t, n, a, b) })
		for i, a := range all {
			for _, b := range all[i:] {
				if k := compare(t, n, a, b); k > 0 {
					t.Errorf("on %d strands: %v is not less than %v, but precedes it", n, a, b)
				}
			}
		}
	}
}

// P11.3: if a is less than b, then c followed by a is less than c followed by b.
func TestCompareAfterTheSameWord(t *testing.T) {
	var s source
	for n := 2; n <= api.MaxStrands; n++ {
		for length := range api.MaxBraid + 1 {
			rest := api.MaxBraid - length
			c, a, b := s.word(n, length), s.word(n, rest), s.word(n, s.below(rest+1))
			ca, cb := slices.Concat(c, a), slices.Concat(c, b)
			if got, want := compare(t, n, ca, cb), compare(t, n, a, b); got != want {
				t.Errorf("Compare(%d, %v, %v) = %d, want %d", n, ca, cb, got, want)
			}
		}
	}
}

func checkError(t *testing.T, n int, a, b []int, want api.Errno) {
	t.Helper()
	if k, e := Compare(n, a, b); k != 0 || e != want {
		t.Errorf("Compare(%d, %v, %v) = %d, %d, want error %d", n, a, b, k, e, want)
	}
}

// P11.3: the errors of braid.Check for a come first, then those for b.
func TestErrorsOfCompare(t *testing.T) {
	good := [][]int{nil, {1}, {-1, -1}, repeat(30, 1)}
	for _, c := range errorCases {
		for _, w := range good {
			if braid.Check(c.n, w) == api.OK {
				checkError(t, c.n, c.w, w, c.want)
				checkError(t, c.n, w, c.w, c.want)
			}
		}
		for _, d := range errorCases {
			if c.n == d.n {
				checkError(t, c.n, c.w, d.w, c.want)
			}
		}
	}
}
