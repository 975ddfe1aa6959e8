package markov

import (
	"math"
	"slices"
	"testing"

	"timbrel/api"
)

// repeat returns k copies of the letters one after the other.
func repeat(k int, letters ...int) []int {
	return slices.Repeat(letters, k)
}

// letters returns all letters of braid words on n strands.
func letters(n int) []int {
	var all []int
	for i := 1; i < n; i++ {
		all = append(all, i, -i)
	}
	return all
}

// plainIndex returns the number of the generator of a letter.
func plainIndex(x int) int {
	if x < 0 {
		return -x
	}
	return x
}

func plainSign(x int) int {
	if x < 0 {
		return -1
	}
	return 1
}

// source is a sequence of numbers that look random and are always the same.
type source uint64

func (s *source) below(n int) int {
	*s = *s*6364136223846793005 + 1442695040888963407
	return int(uint64(*s) >> 33 % uint64(n))
}

// word returns a word of the given length on n strands, n > 1.
func (s *source) word(n, length int) []int {
	var w []int
	for range length {
		w = append(w, letters(n)[s.below(2*n-2)])
	}
	return w
}

// braidCase is a word on n strands.
type braidCase struct {
	n int
	w []int
}

func (c braidCase) equal(d braidCase) bool {
	return c.n == d.n && slices.Equal(c.w, d.w)
}

// samples returns words on all numbers of strands: all of up to 2 letters, and some of each further length up to the given one. In every other one of these, just the last letter has the last generator.
func samples(length int) []braidCase {
	var s source
	all := []braidCase{{1, nil}}
	for n := 2; n <= api.MaxStrands; n++ {
		all = append(all, braidCase{n, nil})
		for _, x := range letters(n) {
			all = append(all, braidCase{n, []int{x}})
			for _, y := range letters(n) {
				all = append(all, braidCase{n, []int{x, y}})
			}
		}
		for k := 3; k <= length; k++ {
			all = append(all, braidCase{n, s.word(n, k)})
			if n > 2 {
				last := []int{n - 1, 1 - n}[s.below(2)]
				all = append(all, braidCase{n, append(s.word(n-1, k-1), last)})
			}
		}
	}
	return all
}

// somewhere returns samples, and words of up to 12 letters that have the first side of each rule on up to 4 strands somewhere.
func somewhere() []braidCase {
	var s source
	all := samples(12)
	for n := 2; n <= 4; n++ {
		for _, r := range rules(n) {
			u, v := s.word(n, s.below(5)), s.word(n, s.below(5))
			all = append(all, braidCase{n, slices.Concat(u, r.before, v)})
		}
	}
	return all
}

// rule tells what a kind of moves puts in the place of a part of a word.
type rule struct {
	kind          int
	before, after []int
}

// rules returns the rules of Delete, Commute and Slide for all letters.
func rules(n int) []rule {
	var all []rule
	for _, x := range letters(n) {
		all = append(all, rule{api.Delete, []int{x, -x}, nil})
		for _, y := range letters(n) {
			switch i, k := plainIndex(x), plainIndex(y); {
			case i >= k+2 || k >= i+2:
				all = append(all, rule{api.Commute, []int{x, y}, []int{y, x}})
			case i != k && x*y > 0:
				all = append(all, rule{api.Slide, []int{x, y, x}, []int{y, x, y}})
			}
		}
	}
	return all
}

// plainApply follows the chapter for a valid word: it looks for the rule of a move at an index among all of them.
func plainApply(n int, w []int, m api.Move) (int, []int, api.Errno) {
	switch m.Kind {
	case api.Insert:
		if !slices.Contains(letters(n), m.Letter) {
			return 0, nil, api.ErrArgument
		}
		return plainReplace(n, w, m, 0)
	case api.Delete, api.Commute:
		return plainReplace(n, w, m, 2)
	case api.Slide:
		return plainReplace(n, w, m, 3)
	case api.Conjugate:
		if len(w) == 0 {
			return 0, nil, api.ErrNotFound
		}
		return plainResult(n, append(slices.Clone(w[1:]), w[0]))
	case api.Stabilize:
		if m.Letter*m.Letter != 1 {
			return 0, nil, api.ErrArgument
		}
		return plainResult(n+1, append(slices.Clone(w), m.Letter*n))
	case api.Destabilize:
		count := 0
		for _, x := range w {
			if plainIndex(x) == n-1 {
				count++
			}
		}
		if n == 1 || len(w) == 0 || plainIndex(w[len(w)-1]) != n-1 || count > 1 {
			return 0, nil, api.ErrNotFound
		}
		return plainResult(n-1, slices.Clone(w[:len(w)-1]))
	}
	return 0, nil, api.ErrMalformed
}

// plainReplace replaces that many letters from an index on.
func plainReplace(n int, w []int, m api.Move, size int) (int, []int, api.Errno) {
	if m.At < 0 || m.At > len(w) || len(w)-m.At < size {
		return 0, nil, api.ErrArgument
	}
	part, rest := w[m.At:m.At+size], w[m.At+size:]
	if m.Kind == api.Insert {
		return plainResult(n, slices.Concat(w[:m.At], []int{m.Letter, -m.Letter}, rest))
	}
	for _, r := range rules(n) {
		if r.kind == m.Kind && slices.Equal(r.before, part) {
			return plainResult(n, slices.Concat(w[:m.At], r.after, rest))
		}
	}
	return 0, nil, api.ErrNotFound
}

// plainResult has the limits of the results of all moves.
func plainResult(n int, w []int) (int, []int, api.Errno) {
	if n > 6 || len(w) > 30 {
		return 0, nil, api.ErrTooLarge
	}
	return n, w, api.OK
}

// movesFor returns moves with and without errors: all kinds and one below and above, with all indices and letters up to one or two beyond those of the word. Fields without a meaning have some other value.
func movesFor(c braidCase) []api.Move {
	var all []api.Move
	for at := -2; at <= len(c.w)+2; at++ {
		for letter := -c.n - 1; letter <= c.n+1; letter++ {
			all = append(all, api.Move{Kind: api.Insert, At: at, Letter: letter})
		}
		for _, kind := range []int{0, api.Delete, api.Commute, api.Slide, api.Conjugate, 8} {
			all = append(all, api.Move{Kind: kind, At: at, Letter: 100 - at})
		}
	}
	for letter := -c.n - 1; letter <= c.n+1; letter++ {
		for _, kind := range []int{-1, api.Conjugate, api.Stabilize, api.Destabilize, 9} {
			all = append(all, api.Move{Kind: kind, At: 50 * letter, Letter: letter})
		}
	}
	return all
}

// candidates returns the moves of a kind whose fields are in range, with 0 in the fields that have no meaning.
func candidates(c braidCase, kind int) []api.Move {
	var all []api.Move
	switch kind {
	case api.Insert:
		for at := range len(c.w) + 1 {
			for _, x := range letters(c.n) {
				all = append(all, api.Move{Kind: kind, At: at, Letter: x})
			}
		}
	case api.Delete, api.Commute, api.Slide:
		for at := range c.w {
			all = append(all, api.Move{Kind: kind, At: at})
		}
	case api.Stabilize:
		all = append(all, api.Move{Kind: kind, Letter: 1}, api.Move{Kind: kind, Letter: -1})
	default:
		all = append(all, api.Move{Kind: kind})
	}
	return all
}

// possible returns the candidates of a kind that can be performed.
func possible(c braidCase, kind int) []api.Move {
	return slices.DeleteFunc(candidates(c, kind), func(m api.Move) bool {
		_, _, e := plainApply(c.n, c.w, m)
		return e != api.OK
	})
}

// walk returns moves that can be performed one after the other, and the words in between, from the given one on. For each move a kind is tried, so there may be fewer moves than tries. Words have up to the given number of letters.
func (s *source) walk(c braidCase, tries, length int) ([]api.Move, []braidCase) {
	var moves []api.Move
	words := []braidCase{c}
	for range tries {
		all := possible(c, 1+s.below(7))
		if len(all) == 0 {
			continue
		}
		m := all[s.below(len(all))]
		if n, w, _ := plainApply(c.n, c.w, m); len(w) <= length {
			c = braidCase{n, w}
			moves, words = append(moves, m), append(words, c)
		}
	}
	return moves, words
}

// applied returns the result of Apply for arguments that have no error.
func applied(t *testing.T, c braidCase, m api.Move) braidCase {
	t.Helper()
	n, w, e := Apply(c.n, c.w, m)
	if e != api.OK {
		t.Fatalf("Apply(%d, %v, %v) = %d, %v, %d", c.n, c.w, m, n, w, e)
	}
	return braidCase{n, w}
}

// commonErrors are braid words for which braid.Check has an error.
var commonErrors = []struct {
	n    int
	w    []int
	want api.Errno
}{
	// The number of strands.
	{0, nil, api.ErrArgument},
	{-1, nil, api.ErrArgument},
	{7, nil, api.ErrArgument},
	{7, []int{1}, api.ErrArgument},
	{math.MinInt, []int{1}, api.ErrArgument},
	{math.MaxInt, []int{1}, api.ErrArgument},
	{1<<32 + 2, []int{1}, api.ErrArgument},

	// More than MaxBraid letters.
	{1, repeat(31, 1), api.ErrTooLarge},
	{2, repeat(31, -1), api.ErrTooLarge},
	{6, repeat(500, 1, -1), api.ErrTooLarge},

	// Letters.
	{1, []int{1}, api.ErrMalformed},
	{1, []int{0}, api.ErrMalformed},
	{2, []int{0}, api.ErrMalformed},
	{2, []int{2}, api.ErrMalformed},
	{2, []int{-2}, api.ErrMalformed},
	{3, []int{1, 2, 3}, api.ErrMalformed},
	{3, []int{-3, 2, 1}, api.ErrMalformed},
	{6, []int{math.MinInt}, api.ErrMalformed},
	{6, []int{math.MaxInt}, api.ErrMalformed},
	{6, append(repeat(29, 5), 6), api.ErrMalformed},

	// Several errors.
	{0, repeat(31, 0), api.ErrArgument},
	{7, []int{0}, api.ErrArgument},
	{2, repeat(31, 0), api.ErrTooLarge},
	{1, repeat(31, 2), api.ErrTooLarge},
}
