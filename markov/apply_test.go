package markov

import (
	"math"
	"slices"
	"testing"

	"timbrel/api"
	"timbrel/garside"
)

// applyCase is a call of Apply.
type applyCase struct {
	n     int
	w     []int
	m     api.Move
	wantN int
	want  []int
}

func checkApply(t *testing.T, all []applyCase) {
	t.Helper()
	for _, c := range all {
		n, w, e := Apply(c.n, c.w, c.m)
		if e != api.OK || n != c.wantN || !slices.Equal(w, c.want) {
			t.Errorf("Apply(%d, %v, %v) = %d, %v, %d, want %d, %v", c.n, c.w, c.m, n, w, e, c.wantN, c.want)
		}
	}
}

// errorCase is a call of Apply with an error.
type errorCase struct {
	n    int
	w    []int
	m    api.Move
	want api.Errno
}

func checkErrors(t *testing.T, all []errorCase) {
	t.Helper()
	for _, c := range all {
		if n, w, e := Apply(c.n, c.w, c.m); e != c.want || n != 0 || len(w) != 0 {
			t.Errorf("Apply(%d, %v, %v) = %d, %v, %d, want error %d", c.n, c.w, c.m, n, w, e, c.want)
		}
	}
}

// P17.1: Insert.
func TestInsert(t *testing.T) {
	checkApply(t, []applyCase{
		{2, nil, api.Move{Kind: api.Insert, At: 0, Letter: 1}, 2, []int{1, -1}},
		{2, []int{}, api.Move{Kind: api.Insert, At: 0, Letter: -1}, 2, []int{-1, 1}},
		{3, []int{1, 2, 1, -2}, api.Move{Kind: api.Insert, At: 0, Letter: -2}, 3, []int{-2, 2, 1, 2, 1, -2}},
		{3, []int{1, 2, 1, -2}, api.Move{Kind: api.Insert, At: 3, Letter: 2}, 3, []int{1, 2, 1, 2, -2, -2}},
		{3, []int{1, 2, 1, -2}, api.Move{Kind: api.Insert, At: 4, Letter: -1}, 3, []int{1, 2, 1, -2, -1, 1}},
		{6, []int{1}, api.Move{Kind: api.Insert, At: 1, Letter: 5}, 6, []int{1, 5, -5}},
		{6, []int{1}, api.Move{Kind: api.Insert, At: 0, Letter: -5}, 6, []int{-5, 5, 1}},
		{3, repeat(28, 2), api.Move{Kind: api.Insert, At: 28, Letter: 1}, 3, append(repeat(28, 2), 1, -1)},
	})
	insert := func(at, letter int) api.Move { return api.Move{Kind: api.Insert, At: at, Letter: letter} }
	w := []int{1, 2, 1, -2}
	checkErrors(t, []errorCase{
		// The index.
		{3, w, insert(-1, 1), api.ErrArgument},
		{3, w, insert(5, 1), api.ErrArgument},
		{3, w, insert(math.MinInt, 1), api.ErrArgument},
		{3, w, insert(math.MaxInt, 1), api.ErrArgument},
		{3, w, insert(1<<32, 1), api.ErrArgument},
		{3, nil, insert(1, 1), api.ErrArgument},

		// The letter.
		{3, w, insert(0, 0), api.ErrArgument},
		{3, w, insert(0, 3), api.ErrArgument},
		{3, w, insert(0, -3), api.ErrArgument},
		{3, w, insert(0, math.MinInt), api.ErrArgument},
		{3, w, insert(0, math.MaxInt), api.ErrArgument},
		{3, w, insert(0, 1<<32+1), api.ErrArgument},
		{1, nil, insert(0, 0), api.ErrArgument},
		{1, nil, insert(0, 1), api.ErrArgument},
		{1, nil, insert(0, -1), api.ErrArgument},
		{6, nil, insert(0, 6), api.ErrArgument},

		// The length afterwards, behind the other errors.
		{3, repeat(29, 2), insert(0, 1), api.ErrTooLarge},
		{3, repeat(30, 2), insert(30, 1), api.ErrTooLarge},
		{3, repeat(30, 2), insert(31, 1), api.ErrArgument},
		{3, repeat(29, 2), insert(0, 3), api.ErrArgument},
	})
}

// P17.1: Delete.
func TestDelete(t *testing.T) {
	checkApply(t, []applyCase{
		{2, []int{1, -1}, api.Move{Kind: api.Delete}, 2, nil},
		{2, []int{-1, 1, 1}, api.Move{Kind: api.Delete}, 2, []int{1}},
		{2, []int{-1, 1, -1}, api.Move{Kind: api.Delete, At: 1}, 2, []int{-1}},
		{4, []int{3, 1, -2, 2, 1}, api.Move{Kind: api.Delete, At: 2, Letter: 77}, 4, []int{3, 1, 1}},
		{6, repeat(15, 5, -5), api.Move{Kind: api.Delete, At: 28}, 6, repeat(14, 5, -5)},
		{2, []int{1, -1}, api.Move{Kind: api.Delete, Letter: math.MinInt}, 2, nil},
	})
	at := func(i int) api.Move { return api.Move{Kind: api.Delete, At: i, Letter: 1} }
	w := []int{1, -1, 1, 2}
	checkErrors(t, []errorCase{
		{3, w, at(-1), api.ErrArgument},
		{3, w, at(3), api.ErrArgument},
		{3, w, at(4), api.ErrArgument},
		{3, w, at(math.MinInt), api.ErrArgument},
		{3, w, at(math.MaxInt), api.ErrArgument},
		{3, w, at(math.MaxInt - 1), api.ErrArgument},
		{3, w, at(1 << 32), api.ErrArgument},
		{3, nil, at(0), api.ErrArgument},
		{3, []int{1}, at(0), api.ErrArgument},
		{3, w, at(2), api.ErrNotFound},
		{3, []int{1, 1}, at(0), api.ErrNotFound},
		{3, []int{-2, -2}, at(0), api.ErrNotFound},
		{3, []int{1, -2}, at(0), api.ErrNotFound},
		{3, []int{1, 2, -1}, at(0), api.ErrNotFound},
	})
}

// P17.1: Commute.
func TestCommute(t *testing.T) {
	checkApply(t, []applyCase{
		{4, []int{1, 3}, api.Move{Kind: api.Commute}, 4, []int{3, 1}},
		{4, []int{-3, 1}, api.Move{Kind: api.Commute}, 4, []int{1, -3}},
		{4, []int{-1, -3}, api.Move{Kind: api.Commute}, 4, []int{-3, -1}},
		{4, []int{2, 1, -3, 2}, api.Move{Kind: api.Commute, At: 1, Letter: -9}, 4, []int{2, -3, 1, 2}},
		{6, []int{5, 5, 1}, api.Move{Kind: api.Commute, At: 1}, 6, []int{5, 1, 5}},
		{6, repeat(10, 5, 1, -3), api.Move{Kind: api.Commute, At: 28}, 6, append(repeat(9, 5, 1, -3), 5, -3, 1)},
		{4, []int{1, 3}, api.Move{Kind: api.Commute, Letter: math.MinInt}, 4, []int{3, 1}},
	})
	at := func(i int) api.Move { return api.Move{Kind: api.Commute, At: i, Letter: 1} }
	w := []int{1, 2, 3, 1}
	checkErrors(t, []errorCase{
		{4, w, at(-1), api.ErrArgument},
		{4, w, at(3), api.ErrArgument},
		{4, w, at(4), api.ErrArgument},
		{4, w, at(math.MinInt), api.ErrArgument},
		{4, w, at(math.MaxInt), api.ErrArgument},
		{4, w, at(1<<32 + 2), api.ErrArgument},
		{4, nil, at(0), api.ErrArgument},
		{4, []int{3}, at(0), api.ErrArgument},
		{4, w, at(0), api.ErrNotFound},
		{4, w, at(1), api.ErrNotFound},
		{4, []int{1, 1}, at(0), api.ErrNotFound},
		{4, []int{1, -1}, at(0), api.ErrNotFound},
		// Letters whose values, but not absolute values, differ by at least 2.
		{4, []int{-1, 2}, at(0), api.ErrNotFound},
		{4, []int{3, -3}, at(0), api.ErrNotFound},
		{4, []int{3, -2}, at(0), api.ErrNotFound},
		{4, []int{1, 2, 3}, at(0), api.ErrNotFound},
	})
}

// P17.1: Slide.
func TestSlide(t *testing.T) {
	checkApply(t, []applyCase{
		{3, []int{1, 2, 1}, api.Move{Kind: api.Slide}, 3, []int{2, 1, 2}},
		{3, []int{2, 1, 2}, api.Move{Kind: api.Slide}, 3, []int{1, 2, 1}},
		{3, []int{-1, -2, -1}, api.Move{Kind: api.Slide}, 3, []int{-2, -1, -2}},
		{3, []int{-2, -1, -2}, api.Move{Kind: api.Slide}, 3, []int{-1, -2, -1}},
		{3, []int{1, 2, 1, -2}, api.Move{Kind: api.Slide, Letter: 8}, 3, []int{2, 1, 2, -2}},
		{6, []int{1, 5, 4, 5, 3}, api.Move{Kind: api.Slide, At: 1}, 6, []int{1, 4, 5, 4, 3}},
		{4, append(repeat(27, 1), 3, 2, 3), api.Move{Kind: api.Slide, At: 27}, 4, append(repeat(27, 1), 2, 3, 2)},
		{3, []int{1, 2, 1}, api.Move{Kind: api.Slide, Letter: math.MinInt}, 3, []int{2, 1, 2}},
	})
	at := func(i int) api.Move { return api.Move{Kind: api.Slide, At: i, Letter: 1} }
	w := []int{1, 2, 1, -2}
	checkErrors(t, []errorCase{
		{3, w, at(-1), api.ErrArgument},
		{3, w, at(2), api.ErrArgument},
		{3, w, at(3), api.ErrArgument},
		{3, w, at(4), api.ErrArgument},
		{3, w, at(math.MinInt), api.ErrArgument},
		{3, w, at(math.MaxInt), api.ErrArgument},
		{3, w, at(math.MaxInt - 2), api.ErrArgument},
		{3, w, at(1 << 32), api.ErrArgument},
		{3, nil, at(0), api.ErrArgument},
		{3, []int{1, 2}, at(0), api.ErrArgument},
		{3, w, at(1), api.ErrNotFound},
		// The outer letters differ, also just in their sign.
		{3, []int{1, 2, 2}, at(0), api.ErrNotFound},
		{3, []int{1, 2, -1}, at(0), api.ErrNotFound},
		{3, []int{-1, 2, 1}, at(0), api.ErrNotFound},
		{4, []int{1, 2, 3}, at(0), api.ErrNotFound},
		// The letter between them has the other sign.
		{3, []int{1, -2, 1}, at(0), api.ErrNotFound},
		{3, []int{-2, 1, -2}, at(0), api.ErrNotFound},
		// The absolute values do not differ by 1.
		{3, []int{1, 1, 1}, at(0), api.ErrNotFound},
		{3, []int{1, -1, 1}, at(0), api.ErrNotFound},
		{4, []int{1, 3, 1}, at(0), api.ErrNotFound},
		{4, []int{-3, -1, -3}, at(0), api.ErrNotFound},
	})
}

// P17.1: Conjugate.
func TestConjugate(t *testing.T) {
	checkApply(t, []applyCase{
		{2, []int{-1}, api.Move{Kind: api.Conjugate}, 2, []int{-1}},
		{3, []int{1, -2}, api.Move{Kind: api.Conjugate}, 3, []int{-2, 1}},
		{3, []int{1, 2, 1, -2}, api.Move{Kind: api.Conjugate, At: 9, Letter: 9}, 3, []int{2, 1, -2, 1}},
		{3, []int{1, 2, 1, -2}, api.Move{Kind: api.Conjugate, At: math.MinInt, Letter: math.MinInt}, 3, []int{2, 1, -2, 1}},
		{6, append(repeat(29, 1), 5), api.Move{Kind: api.Conjugate}, 6, append(repeat(28, 1), 5, 1)},
	})
	checkErrors(t, []errorCase{
		{1, nil, api.Move{Kind: api.Conjugate}, api.ErrNotFound},
		{1, []int{}, api.Move{Kind: api.Conjugate}, api.ErrNotFound},
		{6, nil, api.Move{Kind: api.Conjugate, Letter: 1}, api.ErrNotFound},
	})
}

// P17.1: Stabilize.
func TestStabilize(t *testing.T) {
	checkApply(t, []applyCase{
		{1, nil, api.Move{Kind: api.Stabilize, Letter: -1}, 2, []int{-1}}, // the chapter's example
		{1, nil, api.Move{Kind: api.Stabilize, Letter: 1}, 2, []int{1}},
		{3, []int{1, 2, 1, -2}, api.Move{Kind: api.Stabilize, Letter: 1}, 4, []int{1, 2, 1, -2, 3}},
		{3, []int{1, 2, 1, -2}, api.Move{Kind: api.Stabilize, At: -5, Letter: -1}, 4, []int{1, 2, 1, -2, -3}},
		{5, repeat(29, 4), api.Move{Kind: api.Stabilize, At: math.MaxInt, Letter: -1}, 6, append(repeat(29, 4), -5)},
		{5, nil, api.Move{Kind: api.Stabilize, At: math.MinInt, Letter: 1}, 6, []int{5}},
	})
	stabilize := func(letter int) api.Move { return api.Move{Kind: api.Stabilize, Letter: letter} }
	checkErrors(t, []errorCase{
		{1, nil, stabilize(0), api.ErrArgument},
		{3, []int{1, 2}, stabilize(2), api.ErrArgument},
		{3, []int{1, 2}, stabilize(-2), api.ErrArgument},
		{3, []int{1, 2}, stabilize(3), api.ErrArgument},
		{3, []int{1, 2}, stabilize(-3), api.ErrArgument},
		{3, []int{1, 2}, stabilize(math.MinInt), api.ErrArgument},
		{3, []int{1, 2}, stabilize(math.MaxInt), api.ErrArgument},
		{3, []int{1, 2}, stabilize(1<<32 + 1), api.ErrArgument},

		// The strands and the length afterwards, behind the other error.
		{6, nil, stabilize(1), api.ErrTooLarge},
		{6, []int{5}, stabilize(-1), api.ErrTooLarge},
		{2, repeat(30, 1), stabilize(1), api.ErrTooLarge},
		{6, repeat(30, 1), stabilize(1), api.ErrTooLarge},
		{6, nil, stabilize(6), api.ErrArgument},
		{2, repeat(30, 1), stabilize(0), api.ErrArgument},
	})
}

// P17.1: Destabilize.
func TestDestabilize(t *testing.T) {
	checkApply(t, []applyCase{
		{2, []int{1}, api.Move{Kind: api.Destabilize}, 1, nil},
		{2, []int{-1}, api.Move{Kind: api.Destabilize, At: -1, Letter: 5}, 1, nil},
		{3, []int{2}, api.Move{Kind: api.Destabilize}, 2, nil},
		{3, []int{1, 1, -1, 1, -2}, api.Move{Kind: api.Destabilize}, 2, []int{1, 1, -1, 1}},
		{6, []int{4, 5}, api.Move{Kind: api.Destabilize}, 5, []int{4}},
		{6, append(repeat(29, -4), -5), api.Move{Kind: api.Destabilize}, 5, repeat(29, -4)},
		{3, []int{1, 2}, api.Move{Kind: api.Destabilize, At: math.MinInt, Letter: math.MinInt}, 2, []int{1}},
	})
	m := api.Move{Kind: api.Destabilize, Letter: 1}
	checkErrors(t, []errorCase{
		// One strand, or no letter.
		{1, nil, m, api.ErrNotFound},
		{1, []int{}, m, api.ErrNotFound},
		{2, nil, m, api.ErrNotFound},
		{6, nil, m, api.ErrNotFound},
		// The last letter is another one.
		{3, []int{1}, m, api.ErrNotFound},
		{3, []int{2, 1}, m, api.ErrNotFound},
		{3, []int{1, 1}, m, api.ErrNotFound},
		{6, []int{5, 4}, m, api.ErrNotFound},
		// It is not the only one.
		{2, []int{1, 1}, m, api.ErrNotFound},
		{2, []int{-1, 1}, m, api.ErrNotFound},
		{3, []int{2, 1, 2}, m, api.ErrNotFound},
		{3, []int{1, -2, 1, 2}, m, api.ErrNotFound},
		{3, []int{1, 2, 1, -2}, m, api.ErrNotFound},
		{6, append(repeat(28, 4), 5, 5), m, api.ErrNotFound},
	})
}

// P17.1: the errors of braid.Check come first, then ErrMalformed for the kind.
func TestErrorsOfApply(t *testing.T) {
	kinds := []int{math.MinInt, -1, 0, 1, 2, 3, 4, 5, 6, 7, 8, math.MaxInt}
	for _, c := range commonErrors {
		for _, kind := range kinds {
			for _, letter := range []int{-1, 0, 1} {
				checkErrors(t, []errorCase{{c.n, c.w, api.Move{Kind: kind, Letter: letter}, c.want}})
			}
		}
	}
	for _, kind := range []int{math.MinInt, -7, -1, 0, 8, 9, 1<<32 + 1, math.MaxInt} {
		checkErrors(t, []errorCase{
			{3, []int{1, -1, 2}, api.Move{Kind: kind, Letter: 1}, api.ErrMalformed},
			{3, []int{1, -1, 2}, api.Move{Kind: kind, At: -1, Letter: 0}, api.ErrMalformed},
			{1, nil, api.Move{Kind: kind, At: 5, Letter: 9}, api.ErrMalformed},
			{6, repeat(30, 5), api.Move{Kind: kind, At: 30, Letter: 1}, api.ErrMalformed},
		})
	}
}

// P17.1: words of all lengths up to MaxBraid, with all kinds, indices and letters up to some beyond the limits.
func TestApplyFollowsTheDefinition(t *testing.T) {
	performed := map[int]int{}
	for _, c := range slices.Concat(samples(api.MaxBraid), somewhere()) {
		for _, m := range movesFor(c) {
			wantN, want, wantE := plainApply(c.n, c.w, m)
			n, w, e := Apply(c.n, c.w, m)
			if n != wantN || !slices.Equal(w, want) || e != wantE {
				t.Errorf("Apply(%d, %v, %v) = %d, %v, %d, want %d, %v, %d", c.n, c.w, m, n, w, e, wantN, want, wantE)
			}
			if e == api.OK {
				performed[m.Kind]++
			}
		}
	}
	for kind := api.Insert; kind <= api.Destabilize; kind++ {
		if performed[kind] < 100 {
			t.Errorf("the kind %d was performed %d times", kind, performed[kind])
		}
	}
}

// P17.1: the kinds that insert, delete, exchange or replace letters lead to a word that is equal as a braid. (The others change the braid or its strands.)
func TestMovesKeepTheBraid(t *testing.T) {
	for _, c := range somewhere() {
		for kind := api.Insert; kind <= api.Slide; kind++ {
			for _, m := range possible(c, kind) {
				d := applied(t, c, m)
				if same, e := garside.Equal(c.n, c.w, d.w); d.n != c.n || e != api.OK || !same {
					t.Errorf("Apply(%d, %v, %v) = %d, %v is another braid", c.n, c.w, m, d.n, d.w)
				}
			}
		}
	}
}

// P17.1: as often as there are letters, Conjugate leads back, and once to the braid between the inverse of the first letter and this letter.
func TestConjugateLeadsAround(t *testing.T) {
	for _, c := range samples(api.MaxBraid - 2) {
		d := c
		for i := range c.w {
			first := d.w[0]
			between := slices.Concat([]int{-first}, d.w, []int{first})
			d = applied(t, d, api.Move{Kind: api.Conjugate})
			if same, e := garside.Equal(c.n, d.w, between); e != api.OK || !same {
				t.Errorf("%v after %d times Conjugate of %v is another braid than %v", d.w, i+1, c.w, between)
			}
		}
		if !d.equal(c) {
			t.Errorf("%d times Conjugate of %v leads to %v", len(c.w), c.w, d.w)
		}
	}
}
