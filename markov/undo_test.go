package markov

import (
	"math"
	"slices"
	"testing"

	"timbrel/api"
)

// P17.3: Undo.
func TestUndo(t *testing.T) {
	for _, c := range []struct {
		n    int
		w    []int
		m    api.Move
		want api.Move
	}{
		{2, nil, insertion(0, 1), at(api.Delete, 0)},
		{3, []int{1, 2}, insertion(0, -2), at(api.Delete, 0)},
		{3, []int{1, 2}, insertion(2, 1), at(api.Delete, 2)},
		{6, repeat(28, 5), insertion(28, -5), at(api.Delete, 28)},
		{2, []int{1, -1}, at(api.Delete, 0), insertion(0, 1)},
		{2, []int{-1, 1}, at(api.Delete, 0), insertion(0, -1)},
		{6, []int{3, -5, 5, 4}, at(api.Delete, 1), insertion(1, -5)},
		{6, repeat(15, 5, -5), at(api.Delete, 28), insertion(28, 5)},
		{4, []int{1, 3}, at(api.Commute, 0), at(api.Commute, 0)},
		{4, []int{2, -3, 1}, at(api.Commute, 1), at(api.Commute, 1)},
		{3, []int{1, 2, 1}, at(api.Slide, 0), at(api.Slide, 0)},
		{3, []int{1, 1, -2, -1, -2}, at(api.Slide, 2), at(api.Slide, 2)},
		{1, nil, api.Move{Kind: api.Stabilize, Letter: 1}, api.Move{Kind: api.Destabilize}},
		{3, []int{1, 2}, api.Move{Kind: api.Stabilize, Letter: -1}, api.Move{Kind: api.Destabilize}},
		{2, []int{1}, lower, api.Move{Kind: api.Stabilize, Letter: 1}},
		{2, []int{-1}, lower, api.Move{Kind: api.Stabilize, Letter: -1}},
		{6, []int{1, -4, 5}, lower, api.Move{Kind: api.Stabilize, Letter: 1}},
		{6, []int{1, 4, -5}, lower, api.Move{Kind: api.Stabilize, Letter: -1}},

		// Fields without a meaning are ignored, and 0 in the result.
		{6, []int{3, -5, 5, 4}, api.Move{Kind: api.Delete, At: 1, Letter: 9}, insertion(1, -5)},
		{4, []int{2, -3, 1}, api.Move{Kind: api.Commute, At: 1, Letter: 1}, at(api.Commute, 1)},
		{3, []int{1, 2, 1}, api.Move{Kind: api.Slide, Letter: math.MinInt}, at(api.Slide, 0)},
		{3, []int{1, 2}, api.Move{Kind: api.Stabilize, At: 1, Letter: 1}, api.Move{Kind: api.Destabilize}},
		{3, []int{1, 2}, api.Move{Kind: api.Stabilize, At: math.MinInt, Letter: -1}, api.Move{Kind: api.Destabilize}},
		{3, []int{1, -2}, api.Move{Kind: api.Destabilize, At: 1, Letter: 1}, api.Move{Kind: api.Stabilize, Letter: -1}},
		{3, []int{1, 2}, api.Move{Kind: api.Destabilize, At: math.MaxInt, Letter: -1}, api.Move{Kind: api.Stabilize, Letter: 1}},
	} {
		if m, e := Undo(c.n, c.w, c.m); e != api.OK || m != c.want {
			t.Errorf("Undo(%d, %v, %v) = %v, %d, want %v", c.n, c.w, c.m, m, e, c.want)
		}
	}
}

// P17.3: for all words of the samples and all moves that are possible: the kind, the index and the letter, and where they lead.
func TestUndoLeadsBack(t *testing.T) {
	for _, c := range slices.Concat(samples(api.MaxBraid), somewhere()) {
		for _, m := range movesFor(c) {
			n, w, e := plainApply(c.n, c.w, m)
			if e != api.OK || m.Kind == api.Conjugate {
				continue
			}
			want := plainUndo(c.w, m)
			back, e := Undo(c.n, c.w, m)
			if e != api.OK || back != want {
				t.Errorf("Undo(%d, %v, %v) = %v, %d, want %v", c.n, c.w, m, back, e, want)
			}
			if d := applied(t, braidCase{n, w}, back); !d.equal(c) {
				t.Errorf("Undo(%d, %v, %v) = %v, which leads from %v to %v", c.n, c.w, m, back, w, d)
			}
		}
	}
}

// plainUndo follows the chapter for a move that can be performed and is not Conjugate.
func plainUndo(w []int, m api.Move) api.Move {
	switch m.Kind {
	case api.Insert:
		return api.Move{Kind: 2, At: m.At, Letter: 0}
	case api.Delete:
		return api.Move{Kind: 1, At: m.At, Letter: w[m.At]}
	case api.Stabilize:
		return api.Move{Kind: 7, At: 0, Letter: 0}
	case api.Destabilize:
		return api.Move{Kind: 6, At: 0, Letter: plainSign(w[len(w)-1])}
	}
	return api.Move{Kind: m.Kind, At: m.At, Letter: 0}
}

// P17.3: a sequence of moves is undone from its end, where Conjugate is undone by as many more of it as lead around.
func TestUndoOfWalks(t *testing.T) {
	starts, moves, words := walks()
	for i, c := range starts {
		d := words[i][len(moves[i])]
		for k, m := range slices.Backward(moves[i]) {
			before := words[i][k]
			back, e := Undo(before.n, before.w, m)
			switch {
			case m.Kind == api.Conjugate && e == api.ErrNotFound:
				for range len(d.w) - 1 {
					d = applied(t, d, turn)
				}
			case m.Kind != api.Conjugate && e == api.OK:
				d = applied(t, d, back)
			default:
				t.Fatalf("Undo(%d, %v, %v) = %v, %d", before.n, before.w, m, back, e)
			}
		}
		if !d.equal(c) {
			t.Errorf("the way back from %v over %v leads to %v, not to %v", words[i][len(moves[i])], moves[i], d, c)
		}
	}
}

// P17.3: the errors of Apply, then ErrNotFound for Conjugate.
func TestErrorsOfUndo(t *testing.T) {
	check := func(n int, w []int, m api.Move, want api.Errno) {
		t.Helper()
		if back, e := Undo(n, w, m); e != want || back != (api.Move{}) {
			t.Errorf("Undo(%d, %v, %v) = %v, %d, want error %d", n, w, m, back, e, want)
		}
	}
	for _, c := range commonErrors {
		for kind := 0; kind <= 8; kind++ {
			check(c.n, c.w, api.Move{Kind: kind, Letter: 1}, c.want)
		}
	}
	check(1, nil, turn, api.ErrNotFound)
	check(2, []int{1}, turn, api.ErrNotFound)
	check(6, repeat(30, -5), api.Move{Kind: api.Conjugate, At: 1, Letter: 1}, api.ErrNotFound)
	check(3, repeat(31, 1), turn, api.ErrTooLarge)
	check(3, []int{1}, api.Move{Kind: 8}, api.ErrMalformed)
	check(3, []int{1}, insertion(2, 1), api.ErrArgument)
	check(3, repeat(29, 1), insertion(2, 1), api.ErrTooLarge)
	check(3, []int{1}, at(api.Delete, math.MaxInt), api.ErrArgument)
	check(3, []int{1, 1}, at(api.Delete, 0), api.ErrNotFound)
	check(3, []int{1, 2}, at(api.Commute, 0), api.ErrNotFound)
	check(3, []int{1, -2, 1}, at(api.Slide, 0), api.ErrNotFound)
	check(6, nil, grow, api.ErrTooLarge)
	check(2, repeat(30, 1), grow, api.ErrTooLarge)
	check(2, []int{1}, api.Move{Kind: api.Stabilize}, api.ErrArgument)
	check(2, []int{1, 1}, lower, api.ErrNotFound)
	check(1, nil, lower, api.ErrNotFound)

	for _, c := range somewhere() {
		for _, m := range movesFor(c) {
			if _, _, e := plainApply(c.n, c.w, m); e != api.OK {
				check(c.n, c.w, m, e)
			}
		}
	}
}
