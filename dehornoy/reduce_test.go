package dehornoy

import (
	"slices"
	"testing"

	"timbrel/api"
	"timbrel/garside"
)

// P11.1: Reduce.
func TestReduce(t *testing.T) {
	for _, c := range []struct {
		n       int
		w, want []int
	}{
		// The example.
		{3, []int{1, 2, -1}, []int{-2, 1, 2}},

		// Words without handles.
		{1, nil, nil},
		{1, []int{}, nil},
		{6, nil, nil},
		{2, []int{1}, []int{1}},
		{2, []int{-1}, []int{-1}},
		{2, repeat(30, 1), repeat(30, 1)},
		{2, repeat(30, -1), repeat(30, -1)},
		{3, []int{2, 1, -2}, []int{2, 1, -2}},
		{3, []int{-2, 1, 2}, []int{-2, 1, 2}},
		{4, []int{3, 1, -3}, []int{3, 1, -3}},
		{3, repeat(15, 1, -2), repeat(15, 1, -2)},
		{3, []int{1, 2, 1}, []int{1, 2, 1}},

		// Pairs.
		{2, []int{1, -1}, nil},
		{2, []int{-1, 1}, nil},
		{6, []int{5, -5}, nil},
		{2, []int{1, -1, 1}, []int{1}},
		{2, repeat(15, 1, -1), nil},
		{2, append(repeat(15, 1), repeat(15, -1)...), nil},
		{3, []int{1, 2, -2, -1, 2}, []int{2}},

		// The signs of the handle and of the letters in it.
		{3, []int{1, -2, -1}, []int{-2, -1, 2}},
		{3, []int{-1, 2, 1}, []int{2, 1, -2}},
		{3, []int{-1, -2, 1}, []int{2, -1, -2}},
		{3, []int{1, 2, 2, -1}, []int{-2, 1, 1, 2}},
		{3, []int{-1, -2, -2, 1}, []int{2, -1, -1, -2}},

		// Only the next index is replaced.
		{4, []int{1, 3, -1}, []int{3}},
		{4, []int{-1, 3, 1}, []int{3}},
		{6, []int{1, 4, -5, 3, -1}, []int{4, -5, 3}},
		{4, []int{1, 2, 3, -1}, []int{-2, 1, 2, 3}},
		{4, []int{1, 3, -2, -3, -1}, []int{3, -2, -1, 2, -3}},
		{4, []int{2, 3, -2}, []int{-3, 2, 3}},
		{6, []int{4, 5, -4}, []int{-5, 4, 5}},
		{6, []int{-4, -5, 4}, []int{5, -4, -5}},

		// Other letters stay.
		{4, []int{3, 1, 2, -1, -3}, []int{3, -2, 1, 2, -3}},
		{3, []int{1, 1, 2, -1}, []int{1, -2, 1, 2}},

		// All pairs go first, also those behind the first handle.
		{3, []int{1, 2, -1, 1}, []int{1, 2}},
		{3, []int{-1, 2, 1, -1, -1}, []int{-1, 2, -1}},
		{3, []int{1, 2, -1, -2, 2, 1}, []int{1, 2}},
		{3, []int{1, 2, -1, 2, -2}, []int{-2, 1, 2}},
		{3, []int{2, 1, 2, -1}, []int{1, 2}},
		{3, []int{1, 2, -1, -2}, []int{-2, 1}},

		// A handle within a handle ends first.
		{4, []int{1, 2, 3, -2, -1}, []int{-3, -2, 1, 2, 3}},
		{4, []int{1, 2, -3, -2, -1}, []int{-3, -2, -1, 2, 3}},

		// Handles that follow from others.
		{3, []int{1, 2, 1, -2, -1, -2}, nil},
		{3, []int{1, 2, -1, 2, -1}, []int{-2, -2, 1, 1, 2}},
		{4, []int{1, -3, -1, 3}, nil},
	} {
		if w, e := Reduce(c.n, c.w); e != api.OK || !slices.Equal(w, c.want) {
			t.Errorf("Reduce(%d, %v) = %v, %d, want %v", c.n, c.w, w, e, c.want)
		}
	}
}

// P11.1: the two steps of the definition, one pair and one handle at a time.
func TestReduceFollowsTheDefinition(t *testing.T) {
	for _, c := range samples(api.MaxBraid) {
		if got, want := reduce(t, c.n, c.w), plainReduce(c.w); !slices.Equal(got, want) {
			t.Errorf("Reduce(%d, %v) = %v, want %v", c.n, c.w, got, want)
		}
	}
}

// P11.1: all short words on few strands.
func TestReduceOfShortWords(t *testing.T) {
	for _, c := range []struct{ n, length int }{{2, 10}, {3, 7}, {4, 5}} {
		for _, w := range words(c.n, c.length) {
			if got, want := reduce(t, c.n, w), plainReduce(w); !slices.Equal(got, want) {
				t.Fatalf("Reduce(%d, %v) = %v, want %v", c.n, w, got, want)
			}
		}
	}
}

// P11.1: neither pairs nor handles remain.
func TestReducedWordsHaveNoHandles(t *testing.T) {
	for _, c := range samples(api.MaxBraid) {
		w := reduce(t, c.n, c.w)
		for at := range w {
			if hasPair(w, at) {
				t.Errorf("Reduce(%d, %v) = %v, which has a pair at %d", c.n, c.w, w, at)
			}
		}
		if _, part, _ := plainHandle(w); len(part) > 0 {
			t.Errorf("Reduce(%d, %v) = %v, which has the handle %v", c.n, c.w, w, part)
		}
	}
}

// P11.1: a reduced word stays.
func TestReduceOfReducedWords(t *testing.T) {
	for _, c := range samples(api.MaxBraid) {
		w := reduce(t, c.n, c.w)
		if len(w) > api.MaxBraid {
			continue
		}
		if again := reduce(t, c.n, w); !slices.Equal(again, w) {
			t.Errorf("Reduce(%d, %v) = %v", c.n, w, again)
		}
	}
}

// P11.1: the reduced word is the same braid; package garside decides as long as it takes the word.
func TestReduceKeepsTheBraid(t *testing.T) {
	for _, c := range samples(api.MaxBraid) {
		w := reduce(t, c.n, c.w)
		if trace(c.n, w) != trace(c.n, c.w) {
			t.Errorf("Reduce(%d, %v) = %v, which is another braid", c.n, c.w, w)
		}
		if is, e := garside.Equal(c.n, c.w, w); e == api.OK && !is {
			t.Errorf("Reduce(%d, %v) = %v, which is another braid for package garside", c.n, c.w, w)
		}
	}
}

// P11.1: a reduced word can have more letters than a braid word may have.
func TestReducedWordsCanBeLong(t *testing.T) {
	for i, want := range []int{26, 72, 92, 20} {
		c := hardCases[i]
		if w := reduce(t, c.n, c.w); len(w) != want {
			t.Errorf("Reduce(%d, %v) has %d letters, want %d", c.n, c.w, len(w), want)
		}
	}
}

// P11.1 and P11.2: the reduced word is empty if and only if the braid is 1.
func TestOnlyTheIdentityIsReducedToNothing(t *testing.T) {
	for _, c := range samples(api.MaxBraid) {
		want, e := garside.Equal(c.n, c.w, nil)
		if e != api.OK {
			t.Fatalf("Equal(%d, %v, []) in package garside: error %d", c.n, c.w, e)
		}
		if w := reduce(t, c.n, c.w); (len(w) == 0) != want {
			t.Errorf("Reduce(%d, %v) = %v, but being 1 is %v", c.n, c.w, w, want)
		}
	}
}

// P11.1: two words for a braid, the second one inverted, are reduced to nothing.
func TestReduceByRelations(t *testing.T) {
	var s source
	for _, r := range relations() {
		for length := range 10 {
			u, v := s.word(r.n, length), s.word(r.n, 9-length)
			a, b := slices.Concat(u, r.a, v), slices.Concat(u, r.b, v)
			w := slices.Concat(a, plainInverse(b))
			if got := reduce(t, r.n, w); len(got) != 0 {
				t.Errorf("Reduce(%d, %v) = %v", r.n, w, got)
			}
		}
	}
}

// P11.1: the error of braid.Check.
func TestErrorsOfReduce(t *testing.T) {
	for _, c := range errorCases {
		if w, e := Reduce(c.n, c.w); e != c.want || len(w) > 0 {
			t.Errorf("Reduce(%d, %v) = %v, %d, want error %d", c.n, c.w, w, e, c.want)
		}
	}
}
