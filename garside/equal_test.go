package garside

import (
	"slices"
	"testing"

	"timbrel/api"
	"timbrel/artin"
	"timbrel/braid"
)

// checkEqual compares two words, in both orders.
func checkEqual(t *testing.T, n int, a, b []int, want bool) {
	t.Helper()
	if is, e := Equal(n, a, b); e != api.OK || is != want {
		t.Errorf("Equal(%d, %v, %v) = %v, %d, want %v", n, a, b, is, e, want)
	}
	if is, e := Equal(n, b, a); e != api.OK || is != want {
		t.Errorf("Equal(%d, %v, %v) = %v, %d, want %v", n, b, a, is, e, want)
	}
}

// P10.4: Equal.
func TestEqual(t *testing.T) {
	for _, c := range []struct {
		n    int
		a, b []int
		want bool
	}{
		{1, nil, nil, true},
		{1, nil, []int{}, true},
		{6, nil, nil, true},
		{2, []int{1}, []int{1}, true},
		{2, []int{1}, []int{-1}, false},
		{2, []int{1}, nil, false},
		{2, []int{1, 1}, nil, false},
		{2, []int{1, -1}, nil, true},
		{2, repeat(30, 1), repeat(30, 1), true},
		{2, repeat(30, 1), repeat(29, 1), false},
		{2, repeat(30, 1), repeat(30, -1), false},

		{3, []int{1}, []int{2}, false},
		{3, []int{1, 1}, []int{1}, false},
		{3, []int{1, 2}, []int{2, 1}, false},
		{3, []int{1, 2, 1}, []int{2, 1, 2}, true},
		{3, []int{-1, -2, -1}, []int{-2, -1, -2}, true},
		{3, []int{1, -2, 1}, []int{-2, 1, -2}, false},
		{3, []int{1, 2, -1}, []int{-2, 1, 2}, true},
		{3, []int{1, 2, 1}, []int{1, 2, 1, 1}, false},
		{3, []int{1, 1, 2, 1}, []int{2, 1, 2, 2}, true},
		{3, []int{1, 1, 2, 1}, []int{1, 2, 1, 1}, false},
		{3, repeat(15, 1, 2), repeat(15, 2, 1), true},
		{3, repeat(14, 1, 2), repeat(14, 2, 1), false},
		{3, repeat(15, 1, -2), repeat(15, 1, -2), true},
		{3, repeat(15, 1, -2), repeat(15, -2, 1), false},

		{4, []int{1, -3}, []int{-3, 1}, true},
		{4, []int{1, 3}, []int{1, -3}, false},
		{4, []int{1, 2, 3}, []int{3, 2, 1}, false},
		{6, repeat(6, 1, 2, 3, 4, 5), repeat(6, 5, 4, 3, 2, 1), true},
		{6, repeat(5, 1, 2, 3, 4, 5), repeat(5, 5, 4, 3, 2, 1), false},
	} {
		checkEqual(t, c.n, c.a, c.b, c.want)
	}
}

// P10.4: the Artin representation decides in the same way.
func TestEqualAgreesWithArtin(t *testing.T) {
	for _, c := range []struct{ n, long, short int }{{1, 0, 0}, {2, 5, 5}, {3, 4, 4}, {4, 3, 3}, {5, 3, 2}, {6, 2, 2}} {
		for _, a := range words(c.n, c.long) {
			for _, b := range words(c.n, c.short) {
				want, e := artin.Equal(c.n, a, b)
				if e != api.OK {
					t.Fatalf("Equal(%d, %v, %v) in package artin: error %d", c.n, a, b, e)
				}
				checkEqual(t, c.n, a, b, want)
			}
		}
	}
}

// P10.4: words that a relation transforms into each other are equal, those with one more letter are not.
func TestEqualByRelations(t *testing.T) {
	var s source
	for _, r := range relations() {
		for length := range 14 {
			u, v := s.word(r.n, length), s.word(r.n, 13-length)
			a, b := slices.Concat(u, r.a, v), slices.Concat(u, r.b, v)
			checkEqual(t, r.n, a, b, true)
			checkEqual(t, r.n, a, append(b, 1), false)
			checkEqual(t, r.n, a, append([]int{-1}, b...), false)
		}
	}
}

// P10.4: words with the same permutation and the same exponent sum that are not equal.
func TestPureBraidsDiffer(t *testing.T) {
	for n := 3; n <= api.MaxStrands; n++ {
		for i := 1; i+1 < n; i++ {
			k := i + 1
			checkEqual(t, n, []int{i, i, k, k}, []int{k, k, i, i}, false)
			checkEqual(t, n, []int{i, i, k, k, -i, -i, -k, -k}, nil, false)
			checkEqual(t, n, []int{i, k, k, -i}, []int{-k, i, i, k}, true)
			checkEqual(t, n, []int{i, k, k, -i}, []int{-i, k, k, i}, false)
		}
	}
}

// P10.4: the errors of braid.Check for a come first, then those for b.
func TestErrorsOfEqual(t *testing.T) {
	good := []braidCase{{1, nil}, {2, nil}, {3, []int{1}}, {6, nil}, {6, repeat(30, 5)}}
	for _, c := range errorCases {
		for _, g := range good {
			if braid.Check(c.n, g.w) == api.OK {
				checkError(t, c.n, c.w, g.w, c.want)
				checkError(t, c.n, g.w, c.w, c.want)
			}
		}
		for _, d := range errorCases {
			if c.n == d.n {
				checkError(t, c.n, c.w, d.w, c.want)
			}
		}
	}
}

func checkError(t *testing.T, n int, a, b []int, want api.Errno) {
	t.Helper()
	if is, e := Equal(n, a, b); is || e != want {
		t.Errorf("Equal(%d, %v, %v) = %v, %d, want error %d", n, a, b, is, e, want)
	}
}
