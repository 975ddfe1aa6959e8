package garside

import (
	"math"
	"slices"
	"testing"

	"timbrel/api"
)

// repeat returns k copies of the letters one after the other.
func repeat(k int, letters ...int) []int {
	return slices.Repeat(letters, k)
}

// letters returns all letters of braid words on n strands.
func letters(n int) []int {
	var all []int
	for i := 1; i < n; i++ {
		all = append(all, i, -i)
	}
	return all
}

// words returns all words on n strands of up to length letters, the shortest ones first.
func words(n, length int) [][]int {
	all := [][]int{nil}
	for begin := 0; length > 0; length-- {
		end := len(all)
		for _, w := range all[begin:end] {
			for _, x := range letters(n) {
				all = append(all, append(slices.Clone(w), x))
			}
		}
		begin = end
	}
	return all
}

// source is a sequence of numbers that look random and are always the same.
type source uint64

func (s *source) below(n int) int {
	*s = *s*6364136223846793005 + 1442695040888963407
	return int(uint64(*s) >> 33 % uint64(n))
}

// word returns a word of the given length on n strands, n > 1.
func (s *source) word(n, length int) []int {
	var w []int
	for range length {
		w = append(w, letters(n)[s.below(2*n-2)])
	}
	return w
}

// braidCase is a word on n strands.
type braidCase struct {
	n int
	w []int
}

// samples returns short words and longer ones up to the given length, on all numbers of strands.
func samples(length int) []braidCase {
	var s source
	all := []braidCase{{1, nil}}
	for n := 2; n <= api.MaxStrands; n++ {
		for _, w := range words(n, 3) {
			all = append(all, braidCase{n, w})
		}
		for k := range length + 1 {
			all = append(all, braidCase{n, s.word(n, k)}, braidCase{n, s.word(n, k)})
		}
	}
	return all
}

// form is a normal form.
type form struct {
	power   int
	factors [][]int
}

func (f form) equals(g form) bool {
	return f.power == g.power && slices.EqualFunc(f.factors, g.factors, slices.Equal[[]int])
}

// normalForm returns the normal form of a word that has no error.
func normalForm(t *testing.T, n int, w []int) form {
	t.Helper()
	k, l, e := NormalForm(n, w)
	if e != api.OK {
		t.Fatalf("NormalForm(%d, %v) = %v, %v, %d", n, w, k, l, e)
	}
	return form{k, l}
}

// permutations returns all permutations of degree n.
func permutations(n int) [][]int {
	if n == 0 {
		return [][]int{nil}
	}
	var all [][]int
	for _, p := range permutations(n - 1) {
		for i := range n {
			all = append(all, slices.Insert(slices.Clone(p), i, n-1))
		}
	}
	return all
}

func plainIdentity(n int) []int {
	var p []int
	for i := range n {
		p = append(p, i)
	}
	return p
}

func plainTwist(n int) []int {
	p := plainIdentity(n)
	slices.Reverse(p)
	return p
}

// isProper reports whether a permutation is neither the identity nor the half twist.
func isProper(p []int) bool {
	return !slices.Equal(p, plainIdentity(len(p))) && !slices.Equal(p, plainTwist(len(p)))
}

// properOnes returns all permutations of degree n that can be factors.
func properOnes(n int) [][]int {
	return slices.DeleteFunc(permutations(n), func(p []int) bool { return !isProper(p) })
}

// plainTight reports whether a pair is tight, as the chapter states it.
func plainTight(a, b []int) bool {
	for i := range len(a) - 1 {
		if b[i] > b[i+1] && slices.Index(a, i) < slices.Index(a, i+1) {
			return false
		}
	}
	return true
}

// plainWord returns the word of a permutation by sorting it, the leftmost pair first.
func plainWord(p []int) []int {
	p = slices.Clone(p)
	var w []int
	for i := 0; i+1 < len(p); i++ {
		if p[i] > p[i+1] {
			w = append(w, i+1)
			p[i], p[i+1] = p[i+1], p[i]
			i = -1
		}
	}
	return w
}

func plainInverse(w []int) []int {
	w = slices.Clone(w)
	slices.Reverse(w)
	for i := range w {
		w[i] = -w[i]
	}
	return w
}

// plainFormWord returns the word of a normal form, however long it is.
func plainFormWord(n int, f form) []int {
	twist := plainWord(plainTwist(n))
	if f.power < 0 {
		twist = plainInverse(twist)
	}
	w := slices.Repeat(twist, max(f.power, -f.power))
	for _, p := range f.factors {
		w = append(w, plainWord(p)...)
	}
	return w
}

// formsOf returns all normal forms on n strands with up to length factors and powers from -most to most.
func formsOf(n, most, length int) []form {
	lists := [][][]int{nil}
	for begin := 0; length > 0; length-- {
		end := len(lists)
		for _, l := range lists[begin:end] {
			for _, p := range properOnes(n) {
				if len(l) == 0 || plainTight(l[len(l)-1], p) {
					lists = append(lists, append(slices.Clone(l), p))
				}
			}
		}
		begin = end
	}
	var all []form
	for k := -most; k <= most; k++ {
		for _, l := range lists {
			all = append(all, form{k, l})
		}
	}
	return all
}

// relation is a pair of words that are equal as braids.
type relation struct {
	n    int
	a, b []int
}

// relations returns the relations of all letters, and the pairs of inverse letters.
func relations() []relation {
	var all []relation
	for n := 2; n <= api.MaxStrands; n++ {
		for _, x := range letters(n) {
			all = append(all, relation{n, []int{x, -x}, nil})
			for _, y := range letters(n) {
				switch distance := max(x, -x) - max(y, -y); {
				case distance < -1 || distance > 1:
					all = append(all, relation{n, []int{x, y}, []int{y, x}})
				case distance != 0 && x*y > 0:
					all = append(all, relation{n, []int{x, y, x}, []int{y, x, y}})
					all = append(all, relation{n, []int{x, y, -x}, []int{-y, x, y}})
				}
			}
		}
	}
	return all
}

// errorCases are the words for which braid.Check has an error.
var errorCases = []struct {
	n    int
	w    []int
	want api.Errno
}{
	{0, nil, api.ErrArgument},
	{-1, nil, api.ErrArgument},
	{7, nil, api.ErrArgument},
	{7, []int{1}, api.ErrArgument},
	{math.MinInt, []int{1}, api.ErrArgument},
	{math.MaxInt, []int{1}, api.ErrArgument},
	{1, repeat(31, 1), api.ErrTooLarge},
	{2, repeat(31, 1), api.ErrTooLarge},
	{6, repeat(500, 1, -1), api.ErrTooLarge},
	{1, []int{1}, api.ErrMalformed},
	{1, []int{0}, api.ErrMalformed},
	{2, []int{0}, api.ErrMalformed},
	{2, []int{2}, api.ErrMalformed},
	{2, []int{-2}, api.ErrMalformed},
	{3, []int{1, 2, 3}, api.ErrMalformed},
	{3, []int{-3, 2, 1}, api.ErrMalformed},
	{6, []int{math.MinInt}, api.ErrMalformed},
	{6, []int{math.MaxInt}, api.ErrMalformed},
	{6, append(repeat(29, 5), 6), api.ErrMalformed},

	// Several errors: the strands come first, then the length, then the letters.
	{0, repeat(31, 0), api.ErrArgument},
	{7, repeat(31, 1), api.ErrArgument},
	{0, []int{0}, api.ErrArgument},
	{2, repeat(31, 0), api.ErrTooLarge},
	{2, append(repeat(30, 1), 2), api.ErrTooLarge},
}
