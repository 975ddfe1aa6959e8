package garside

import (
	"math"
	"slices"
	"testing"

	"timbrel/api"
)

// All proper factors on 3 strands: the permutations of the words [1], [2], [1 2] and [2 1].
var (
	a  = []int{1, 0, 2}
	b  = []int{0, 2, 1}
	ab = []int{2, 0, 1}
	ba = []int{1, 2, 0}
)

// copies returns k factors p.
func copies(k int, p []int) [][]int {
	return slices.Repeat([][]int{p}, k)
}

var checkCases = []struct {
	n       int
	factors [][]int
	want    api.Errno
}{
	{2, nil, api.OK},
	{2, [][]int{}, api.OK},
	{6, nil, api.OK},
	{3, [][]int{a}, api.OK},
	{3, [][]int{ab}, api.OK},
	{3, [][]int{a, a}, api.OK},
	{3, [][]int{a, ab, b}, api.OK},
	{3, [][]int{ab, ba, ab}, api.OK},
	{3, [][]int{ab, b, ba}, api.OK},
	{3, copies(30, b), api.OK},
	{4, [][]int{{1, 0, 3, 2}, {1, 0, 2, 3}}, api.OK},
	{6, [][]int{{5, 4, 3, 2, 0, 1}, {4, 5, 3, 2, 1, 0}}, api.OK},
	{6, copies(30, []int{0, 1, 2, 3, 5, 4}), api.OK},

	// The number of strands.
	{1, nil, api.ErrArgument},
	{0, nil, api.ErrArgument},
	{-1, nil, api.ErrArgument},
	{7, nil, api.ErrArgument},
	{7, [][]int{{1, 0, 2, 3, 4, 5, 6}}, api.ErrArgument},
	{1, [][]int{{0}}, api.ErrArgument},
	{math.MinInt, nil, api.ErrArgument},
	{math.MaxInt, nil, api.ErrArgument},
	{1<<32 + 3, [][]int{a}, api.ErrArgument},

	// The number of factors.
	{2, make([][]int, 31), api.ErrTooLarge},
	{3, copies(31, a), api.ErrTooLarge},
	{6, make([][]int, 10000), api.ErrTooLarge},

	// The errors of perm.Check.
	{3, [][]int{{0, 1, 2, 3, 4, 5, 6, 7, 9, 8}}, api.ErrTooLarge},
	{3, [][]int{make([]int, 10000)}, api.ErrTooLarge},
	{3, [][]int{{1, 0, 3}}, api.ErrArgument},
	{3, [][]int{{-1, 0, 2}}, api.ErrArgument},
	{3, [][]int{{math.MinInt, math.MaxInt, 0}}, api.ErrArgument},
	{3, [][]int{{1, 0, 1}}, api.ErrExists},
	{3, [][]int{a, {1, 0, 1}}, api.ErrExists},
	{3, [][]int{a, a, {3, 0, 1}}, api.ErrArgument},

	// Another degree.
	{3, [][]int{nil}, api.ErrMalformed},
	{3, [][]int{{}}, api.ErrMalformed},
	{3, [][]int{{0}}, api.ErrMalformed},
	{3, [][]int{{1, 0}}, api.ErrMalformed},
	{3, [][]int{{1, 0, 3, 2}}, api.ErrMalformed},
	{3, [][]int{a, {0, 2, 1, 3}}, api.ErrMalformed},
	{6, [][]int{{0, 1, 2, 3, 4, 5, 6, 8, 7}}, api.ErrMalformed},

	// The identity and the half twist; on 2 strands there is nothing else.
	{2, [][]int{{0, 1}}, api.ErrMalformed},
	{2, [][]int{{1, 0}}, api.ErrMalformed},
	{3, [][]int{{0, 1, 2}}, api.ErrMalformed},
	{3, [][]int{{2, 1, 0}}, api.ErrMalformed},
	{3, [][]int{{2, 1, 0}, a}, api.ErrMalformed},
	{3, [][]int{a, {0, 1, 2}}, api.ErrMalformed},
	{6, [][]int{{5, 4, 3, 2, 1, 0}}, api.ErrMalformed},
	{6, [][]int{{0, 1, 2, 3, 4, 5}}, api.ErrMalformed},

	// Pairs that are not tight.
	{3, [][]int{a, b}, api.ErrMalformed},
	{3, [][]int{b, a}, api.ErrMalformed},
	{3, [][]int{ab, a}, api.ErrMalformed},
	{3, [][]int{ba, b}, api.ErrMalformed},
	{3, [][]int{ab, ab}, api.ErrMalformed},
	{3, [][]int{ba, ba}, api.ErrMalformed},
	{3, [][]int{a, a, b}, api.ErrMalformed},
	{3, append(copies(29, a), b), api.ErrMalformed},
	{4, [][]int{{1, 0, 2, 3}, {0, 1, 3, 2}}, api.ErrMalformed},
	{4, [][]int{{1, 0, 2, 3}, {1, 0, 3, 2}}, api.ErrMalformed},

	// Several errors: the strands come first, then the number of factors, then each factor in order.
	{1, copies(31, nil), api.ErrArgument},
	{7, copies(31, []int{1, 1}), api.ErrArgument},
	{1, [][]int{{0, 0}}, api.ErrArgument},
	{1, [][]int{make([]int, 10)}, api.ErrArgument},
	{7, [][]int{{1, 1}}, api.ErrArgument},
	{3, copies(31, []int{0, 1, 1}), api.ErrTooLarge},
	{3, copies(31, []int{0, 1, 7}), api.ErrTooLarge},
	{3, append(copies(30, a), []int{1}), api.ErrTooLarge},
	{3, [][]int{{1, 1}}, api.ErrExists},
	{3, [][]int{{5, 5}}, api.ErrArgument},
	{3, [][]int{{0, 0, 5, 5}}, api.ErrExists},
	{3, [][]int{{0, 1, 2}, {0, 0, 2}}, api.ErrMalformed},
	{3, [][]int{{0, 0, 2}, {0, 1, 2}}, api.ErrExists},
	{3, [][]int{a, b, {0, 0, 2}}, api.ErrMalformed},
	{3, [][]int{a, {0, 0, 2}, b}, api.ErrExists},
	{3, [][]int{a, {0, 0, 9}, make([]int, 10)}, api.ErrExists},
	{3, [][]int{a, {0, 1, 9}, make([]int, 10)}, api.ErrArgument},
	{3, [][]int{a, make([]int, 10), {0, 1, 9}}, api.ErrTooLarge},
}

// P10.2: Check.
func TestCheck(t *testing.T) {
	for _, c := range checkCases {
		if e := Check(c.n, c.factors); e != c.want {
			t.Errorf("Check(%d, %v) = %d, want %d", c.n, c.factors, e, c.want)
		}
	}
}

// P10.2: each permutation as the only factor.
func TestCheckOfEachFactor(t *testing.T) {
	for n := 2; n <= api.MaxStrands; n++ {
		for degree := range 8 {
			for _, p := range permutations(degree) {
				want := api.ErrMalformed
				if degree == n && isProper(p) {
					want = api.OK
				}
				if e := Check(n, [][]int{p}); e != want {
					t.Errorf("Check(%d, [%v]) = %d, want %d", n, p, e, want)
				}
			}
		}
	}
}

// P10.2: each pair of factors, alone and behind a factor that is tight with the first one.
func TestCheckOfEachPair(t *testing.T) {
	for n := 3; n <= 5; n++ {
		all := properOnes(n)
		for _, p := range all {
			before := slices.IndexFunc(all, func(o []int) bool { return plainTight(o, p) })
			for _, q := range all {
				want := api.ErrMalformed
				if plainTight(p, q) {
					want = api.OK
				}
				if e := Check(n, [][]int{p, q}); e != want {
					t.Errorf("Check(%d, [%v %v]) = %d, want %d", n, p, q, e, want)
				}
				if e := Check(n, [][]int{all[before], p, q}); e != want {
					t.Errorf("Check(%d, [%v %v %v]) = %d, want %d", n, all[before], p, q, e, want)
				}
			}
		}
	}
}

// P10.2: a pair is tight if and only if it is the normal form of its product.
func TestTightPairsAreNormal(t *testing.T) {
	for n := 3; n <= 4; n++ {
		for _, p := range properOnes(n) {
			for _, q := range properOnes(n) {
				f := form{0, [][]int{p, q}}
				is := normalForm(t, n, plainFormWord(n, f)).equals(f)
				if e := Check(n, f.factors); is != (e == api.OK) {
					t.Errorf("Check(%d, %v) = %d, but normal is %v", n, f.factors, e, is)
				}
			}
		}
	}
}

// P10.2: the factors of normal forms.
func TestCheckOfNormalForms(t *testing.T) {
	for _, c := range samples(api.MaxBraid) {
		if f := normalForm(t, c.n, c.w); c.n > 1 {
			if e := Check(c.n, f.factors); e != api.OK {
				t.Errorf("Check(%d, %v) = %d", c.n, f.factors, e)
			}
		}
	}
}
