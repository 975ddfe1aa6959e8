package garside

import (
	"slices"
	"testing"

	"timbrel/api"
	"timbrel/artin"
)

// P10.1: NormalForm.
func TestNormalForm(t *testing.T) {
	for _, c := range []struct {
		n    int
		w    []int
		want form
	}{
		// The examples.
		{3, []int{1, 2, 1}, form{1, nil}},
		{3, []int{-1}, form{-1, [][]int{{2, 0, 1}}}},

		// One strand and no letters.
		{1, nil, form{0, nil}},
		{1, []int{}, form{0, nil}},
		{2, nil, form{0, nil}},
		{6, nil, form{0, nil}},
		{6, []int{3, -3}, form{0, nil}},
		{4, []int{-3, 3}, form{0, nil}},

		// On two strands, the only letter is the half twist.
		{2, []int{1}, form{1, nil}},
		{2, []int{-1}, form{-1, nil}},
		{2, []int{1, 1, -1}, form{1, nil}},
		{2, repeat(30, 1), form{30, nil}},
		{2, repeat(30, -1), form{-30, nil}},
		{2, repeat(15, 1, -1), form{0, nil}},

		{3, []int{1}, form{0, [][]int{{1, 0, 2}}}},
		{3, []int{2}, form{0, [][]int{{0, 2, 1}}}},
		{3, []int{-2}, form{-1, [][]int{{1, 2, 0}}}},
		{3, []int{1, 2}, form{0, [][]int{{2, 0, 1}}}},
		{3, []int{2, 1}, form{0, [][]int{{1, 2, 0}}}},
		{3, []int{2, 1, 2}, form{1, nil}},
		{3, []int{-1, -2, -1}, form{-1, nil}},
		{3, repeat(3, 1, 2), form{2, nil}},
		{3, repeat(15, 1, 2), form{10, nil}},
		{3, repeat(15, -2, -1), form{-10, nil}},

		// Two strands that cross twice make two factors.
		{3, []int{1, 1}, form{0, [][]int{{1, 0, 2}, {1, 0, 2}}}},
		{3, []int{1, 2, 2}, form{0, [][]int{{2, 0, 1}, {0, 2, 1}}}},
		{3, []int{1, 1, 2}, form{0, [][]int{{1, 0, 2}, {2, 0, 1}}}},

		// A half twist within the word moves to the front.
		{3, []int{1, 1, 2, 1}, form{1, [][]int{{0, 2, 1}}}},
		{3, []int{1, 2, 1, 1}, form{1, [][]int{{1, 0, 2}}}},
		{3, []int{1, 2, 1, 2}, form{1, [][]int{{0, 2, 1}}}},
		{3, []int{1, -2}, form{-1, [][]int{{0, 2, 1}, {1, 2, 0}}}},
		{3, []int{-2, 1}, form{-1, [][]int{{1, 2, 0}, {1, 0, 2}}}},
		{3, []int{-1, -2}, form{-1, [][]int{{1, 0, 2}}}},
		{3, []int{-1, -1}, form{-2, [][]int{{1, 2, 0}, {2, 0, 1}}}},

		{4, []int{1, 3}, form{0, [][]int{{1, 0, 3, 2}}}},
		{4, []int{3, 1}, form{0, [][]int{{1, 0, 3, 2}}}},
		{4, []int{1, 1, 3}, form{0, [][]int{{1, 0, 3, 2}, {1, 0, 2, 3}}}},
		{4, []int{1, 2, 3}, form{0, [][]int{{3, 0, 1, 2}}}},
		{4, []int{1, 2, 3, 1, 2, 1}, form{1, nil}},
		{4, []int{-3}, form{-1, [][]int{{2, 3, 1, 0}}}},
		{6, []int{1, 2, 3, 4, 5, 1, 2, 3, 4, 1, 2, 3, 1, 2, 1}, form{1, nil}},
		{6, repeat(6, 1, 2, 3, 4, 5), form{2, nil}},
		{6, repeat(6, -5, -4, -3, -2, -1), form{-2, nil}},

		// The longest ones.
		{6, repeat(30, 5), form{0, slices.Repeat([][]int{{0, 1, 2, 3, 5, 4}}, 30)}},
		{6, repeat(30, -5), form{-30, slices.Repeat([][]int{{5, 4, 3, 2, 0, 1}, {4, 5, 3, 2, 1, 0}}, 15)}},
	} {
		if k, l, e := NormalForm(c.n, c.w); e != api.OK || !c.want.equals(form{k, l}) {
			t.Errorf("NormalForm(%d, %v) = %v, %v, %d, want %v", c.n, c.w, k, l, e, c.want)
		}
	}
}

// checkForm checks all that P10.1 states about a normal form except that it is the given braid.
func checkForm(t *testing.T, n int, w []int, f form) {
	t.Helper()
	for j, p := range f.factors {
		sorted := slices.Sorted(slices.Values(p))
		if !slices.Equal(sorted, plainIdentity(n)) || !isProper(p) {
			t.Fatalf("NormalForm(%d, %v) = %v, which has the factor %v", n, w, f, p)
		}
		if j > 0 && !plainTight(f.factors[j-1], p) {
			t.Fatalf("NormalForm(%d, %v) = %v, which is not tight before %v", n, w, f, p)
		}
	}
}

// P10.1: the factors are proper, and neighbouring ones are tight.
func TestFactorsAreTight(t *testing.T) {
	for _, c := range samples(api.MaxBraid) {
		checkForm(t, c.n, c.w, normalForm(t, c.n, c.w))
	}
}

// prime is the modulus for Burau matrices at one value of t.
const prime = 1<<31 - 1

func power(x, k int) int {
	y := 1
	for ; k > 0; k /= 2 {
		if k%2 != 0 {
			y = y * x % prime
		}
		x = x * x % prime
	}
	return y
}

// trace returns, for one row and one value of t, what the word's Burau matrix makes of it modulo the prime.
func trace(n int, w []int) []int {
	const t = 123456789
	inverse := power(t, prime-2)
	var row []int
	for i := range n {
		row = append(row, i*i+3)
	}
	for _, x := range w {
		i := max(x, -x)
		l, r := row[i-1], row[i]
		if x > 0 {
			row[i-1], row[i] = (l*(prime+1-t)+r)%prime, l*t%prime
		} else {
			row[i-1], row[i] = r*inverse%prime, (l+r*(prime+1-inverse))%prime
		}
	}
	return row
}

// P10.1: the normal form is the given braid: words of any length, by a necessary condition.
func TestNormalFormKeepsTheBurauMatrix(t *testing.T) {
	for _, c := range samples(api.MaxBraid) {
		f := normalForm(t, c.n, c.w)
		if got, want := trace(c.n, plainFormWord(c.n, f)), trace(c.n, c.w); !slices.Equal(got, want) {
			t.Errorf("NormalForm(%d, %v) = %v, which is another braid", c.n, c.w, f)
		}
	}
}

// P10.1: the normal form is the given braid, as package artin finds it.
func TestNormalFormIsTheBraid(t *testing.T) {
	count := 0
	for _, c := range samples(12) {
		v := plainFormWord(c.n, normalForm(t, c.n, c.w))
		is, e := artin.Equal(c.n, c.w, v)
		if e == api.OK && !is {
			t.Errorf("NormalForm of (%d, %v) is the braid %v", c.n, c.w, v)
		}
		if e == api.OK && len(c.w) > 0 {
			count++
		}
	}
	if count < 300 {
		t.Error("only", count, "words were compared")
	}
}

// P10.1: each list of proper factors of which neighbours are tight is its own normal form.
func TestNormalFormIsTheOnlyOne(t *testing.T) {
	for _, c := range []struct{ n, most, length int }{{2, 30, 0}, {3, 5, 7}, {4, 2, 3}, {5, 0, 2}, {6, 0, 1}} {
		for _, f := range formsOf(c.n, c.most, c.length) {
			w := plainFormWord(c.n, f)
			if len(w) > api.MaxBraid {
				continue
			}
			if g := normalForm(t, c.n, w); !g.equals(f) {
				t.Fatalf("NormalForm(%d, %v) = %v, want %v", c.n, w, g, f)
			}
		}
	}
}

// P10.1: words that a relation transforms into each other have the same normal form, in the middle of other letters too.
func TestNormalFormByRelations(t *testing.T) {
	var s source
	for _, r := range relations() {
		for length := range 14 {
			u, v := s.word(r.n, length), s.word(r.n, 13-length)
			a, b := slices.Concat(u, r.a, v), slices.Concat(u, r.b, v)
			if f, g := normalForm(t, r.n, a), normalForm(t, r.n, b); !f.equals(g) {
				t.Fatalf("NormalForm(%d, ...) is %v for %v, but %v for %v", r.n, f, a, g, b)
			}
		}
	}
}

// P10.1: a word and its inverse one after the other are the half twist to the power of 0.
func TestNormalFormOfNothing(t *testing.T) {
	for _, c := range samples(15) {
		w := slices.Concat(c.w, plainInverse(c.w))
		if f := normalForm(t, c.n, w); !f.equals(form{}) {
			t.Errorf("NormalForm(%d, %v) = %v", c.n, w, f)
		}
	}
}

// P10.1: the permutation braid of each permutation.
func TestNormalFormOfPermutationBraids(t *testing.T) {
	for n := 2; n <= api.MaxStrands; n++ {
		for _, p := range permutations(n) {
			want := form{0, [][]int{p}}
			switch {
			case slices.Equal(p, plainIdentity(n)):
				want = form{0, nil}
			case slices.Equal(p, plainTwist(n)):
				want = form{1, nil}
			}
			if f := normalForm(t, n, plainWord(p)); !f.equals(want) {
				t.Errorf("NormalForm(%d, %v) = %v, want %v", n, plainWord(p), f, want)
			}
		}
	}
}

// P10.1: the error of braid.Check.
func TestErrorsOfNormalForm(t *testing.T) {
	for _, c := range errorCases {
		if k, l, e := NormalForm(c.n, c.w); e != c.want || k != 0 || len(l) > 0 {
			t.Errorf("NormalForm(%d, %v) = %d, %v, %d, want error %d", c.n, c.w, k, l, e, c.want)
		}
	}
}
