package artin

import (
	"math"
	"slices"
	"testing"

	"timbrel/api"
	"timbrel/braid"
	"timbrel/freegroup"
)

// repeat returns k copies of the letters one after the other.
func repeat(k int, letters ...int) []int {
	return slices.Repeat(letters, k)
}

// letters returns all letters of braid words on n strands.
func letters(n int) []int {
	var all []int
	for i := 1; i < n; i++ {
		all = append(all, i, -i)
	}
	return all
}

// words returns all words on n strands of up to length letters, the shortest ones first.
func words(n, length int) [][]int {
	all := [][]int{nil}
	for begin := 0; length > 0; length-- {
		end := len(all)
		for _, w := range all[begin:end] {
			for _, x := range letters(n) {
				all = append(all, append(slices.Clone(w), x))
			}
		}
		begin = end
	}
	return all
}

// source is a sequence of numbers that look random and are always the same.
type source uint64

func (s *source) below(n int) int {
	*s = *s*6364136223846793005 + 1442695040888963407
	return int(uint64(*s) >> 33 % uint64(n))
}

// choose returns a word of the given length.
func (s *source) choose(length int, letters ...int) []int {
	var w []int
	for range length {
		w = append(w, letters[s.below(len(letters))])
	}
	return w
}

// word returns a word of the given length on n strands, n > 1.
func (s *source) word(n, length int) []int {
	return s.choose(length, letters(n)...)
}

// braidCase is a word on n strands.
type braidCase struct {
	n int
	w []int
}

// samples returns short words and longer ones up to the given length, on all numbers of strands.
func samples(length int) []braidCase {
	var s source
	all := []braidCase{{1, nil}}
	for n := 2; n <= api.MaxStrands; n++ {
		for _, w := range words(n, 3) {
			all = append(all, braidCase{n, w})
		}
		for k := range length + 1 {
			all = append(all, braidCase{n, s.word(n, k)}, braidCase{n, s.word(n, k)})
		}
	}
	return all
}

// plainReduce deletes pairs of adjacent inverse letters.
func plainReduce(w []int) []int {
	var r []int
	for _, x := range w {
		r = append(r, x)
		if n := len(r); n > 1 && r[n-2] == -r[n-1] {
			r = r[:n-2]
		}
	}
	return r
}

func plainInverse(w []int) []int {
	w = slices.Clone(w)
	slices.Reverse(w)
	for i := range w {
		w[i] = -w[i]
	}
	return w
}

// plainLetter returns the image of generator k under the letter x as the chapter states it.
func plainLetter(x, k int) []int {
	switch i := max(x, -x); {
	case x > 0 && k == i:
		return []int{i, i + 1, -i}
	case x > 0 && k == i+1:
		return []int{i}
	case x < 0 && k == i:
		return []int{i + 1}
	case x < 0 && k == i+1:
		return []int{-(i + 1), i, i + 1}
	}
	return []int{k}
}

// substitute replaces the generators in a word by their images.
func substitute(w []int, image func(k int) []int) []int {
	var all []int
	for _, x := range w {
		if x > 0 {
			all = append(all, image(x)...)
		} else {
			all = append(all, plainInverse(image(-x))...)
		}
	}
	return plainReduce(all)
}

// plainImages applies the automorphisms of the letters to each generator, first that of the first letter.
func plainImages(n int, w []int) [][]int {
	var images [][]int
	for k := 1; k <= n; k++ {
		image := []int{k}
		for _, x := range w {
			image = substitute(image, func(k int) []int { return plainLetter(x, k) })
		}
		images = append(images, image)
	}
	return images
}

func longest(images [][]int) int {
	length := 0
	for _, image := range images {
		length = max(length, len(image))
	}
	return length
}

// plainError returns the error of Images as P9.1 states it, for a word that braid.Check accepts.
func plainError(n int, w []int) api.Errno {
	for begin := len(w); begin >= 0; begin-- {
		if longest(plainImages(n, w[begin:])) > 3000 {
			return api.ErrTooLarge
		}
	}
	return api.OK
}

func sameImages(a, b [][]int) bool {
	return slices.EqualFunc(a, b, slices.Equal[[]int])
}

// images returns the images under a word that has no error.
func images(t *testing.T, n int, w []int) [][]int {
	t.Helper()
	l, e := Images(n, w)
	if e != api.OK || len(l) != n {
		t.Fatalf("Images(%d, %v) = %v, %d", n, w, l, e)
	}
	return l
}

// growing is a word whose images have 1971, 3191 and 1217 letters. Those under its inverse have at most 1219.
var growing = repeat(7, -1, 2)

// fitting is a word with an image of 2999 letters, the others under it and its ends being shorter.
var fitting = []int{1, 1, 1, -2, 1, -2, -2, 1, -2, -2, 1, -2, 1, -2, 1, 1, 1}

// exceeding is a word with an image of 3001 letters, the others under it and its ends being shorter.
var exceeding = []int{1, -2, 1, 1, -2, -2, 1, 1, -2, 1, -2, 1, 1, -2, 1, 1, -2}

// shift moves all crossings by k positions.
func shift(w []int, k int) []int {
	w = slices.Clone(w)
	for i, x := range w {
		if x > 0 {
			w[i] += k
		} else {
			w[i] -= k
		}
	}
	return w
}

// P9.1: Images.
func TestImages(t *testing.T) {
	for _, c := range []struct {
		n    int
		w    []int
		want [][]int
	}{
		{2, []int{1}, [][]int{{1, 2, -1}, {1}}}, // the example

		// No letter changes nothing.
		{1, nil, [][]int{{1}}},
		{1, []int{}, [][]int{{1}}},
		{2, nil, [][]int{{1}, {2}}},
		{6, nil, [][]int{{1}, {2}, {3}, {4}, {5}, {6}}},

		// One letter changes two generators.
		{2, []int{-1}, [][]int{{2}, {-2, 1, 2}}},
		{3, []int{1}, [][]int{{1, 2, -1}, {1}, {3}}},
		{3, []int{-2}, [][]int{{1}, {3}, {-3, 2, 3}}},
		{6, []int{3}, [][]int{{1}, {2}, {3, 4, -3}, {3}, {5}, {6}}},
		{6, []int{5}, [][]int{{1}, {2}, {3}, {4}, {5, 6, -5}, {5}}},
		{6, []int{-5}, [][]int{{1}, {2}, {3}, {4}, {6}, {-6, 5, 6}}},

		// The automorphism of the first letter is applied first.
		{3, []int{1, 2}, [][]int{{1, 2, 3, -2, -1}, {1}, {2}}},
		{3, []int{2, 1}, [][]int{{1, 2, -1}, {1, 3, -1}, {1}}},
		{3, []int{1, -2}, [][]int{{1, 3, -1}, {1}, {-3, 2, 3}}},
		{3, []int{-1, -2}, [][]int{{3}, {-3, 1, 3}, {-3, 2, 3}}},
		{3, []int{1, 2, 1}, [][]int{{1, 2, 3, -2, -1}, {1, 2, -1}, {1}}},

		// The words are reduced.
		{2, []int{1, 1}, [][]int{{1, 2, 1, -2, -1}, {1, 2, -1}}},
		{2, []int{-1, -1}, [][]int{{-2, 1, 2}, {-2, -1, 2, 1, 2}}},
		{2, []int{1, -1}, [][]int{{1}, {2}}},
		{2, []int{-1, 1}, [][]int{{1}, {2}}},
		{3, []int{1, 2, -2, -1}, [][]int{{1}, {2}, {3}}},
		{2, repeat(15, 1, -1), [][]int{{1}, {2}}},
		{2, repeat(30, 1), [][]int{power(15, 1), power(15, 2)}},
	} {
		if l, e := Images(c.n, c.w); e != api.OK || !sameImages(l, c.want) {
			t.Errorf("Images(%d, %v) = %v, %d, want %v", c.n, c.w, l, e, c.want)
		}
	}
}

// power returns the word of (x1 x2)^k x (x1 x2)^-k, where x is x1 or x2. An even power of the letter 1 on 2 strands has such images.
func power(k, x int) []int {
	g := repeat(k, 1, 2)
	return plainReduce(slices.Concat(g, []int{x}, plainInverse(g)))
}

// P9.1: the images follow from those under the letters.
func TestImagesFollowTheDefinition(t *testing.T) {
	all := append(samples(12), braidCase{3, fitting}, braidCase{6, shift(fitting, 3)})
	for _, w := range words(3, 6) {
		all = append(all, braidCase{3, w})
	}
	for _, c := range all {
		want := plainImages(c.n, c.w)
		if l, e := Images(c.n, c.w); e != api.OK || !sameImages(l, want) {
			t.Errorf("Images(%d, %v) = %v, %d, want %v", c.n, c.w, l, e, want)
		}
	}
}

// P9.1: words of up to MaxBraid letters, with and without images that are too large.
func TestImagesOfLongWords(t *testing.T) {
	var s source
	var all []braidCase
	for range 100 {
		n := 3 + s.below(4)
		all = append(all, braidCase{n, s.word(n, 15+s.below(16))})
		// Images grow fast where the signs of adjacent generators differ.
		all = append(all, braidCase{3, s.choose(14+s.below(8), 1, -2)}, braidCase{4, s.choose(18+s.below(10), 1, -2, 3)})
	}
	count := map[api.Errno]int{}
	for _, c := range all {
		want := plainError(c.n, c.w)
		count[want]++
		l, e := Images(c.n, c.w)
		if e != want || e == api.OK && !sameImages(l, plainImages(c.n, c.w)) {
			t.Errorf("Images(%d, %v) = %v, %d, want error %d", c.n, c.w, l, e, want)
		}
	}
	if count[api.OK] < 20 || count[api.ErrTooLarge] < 20 {
		t.Error("too few words of one kind:", count)
	}
}

// P9.1: the first word's images with the second one's in place of the generators are those of both words.
func TestImagesOfTwoWords(t *testing.T) {
	var s source
	for range 300 {
		n := 2 + s.below(5)
		a, b := s.word(n, s.below(8)), s.word(n, s.below(8))
		second := images(t, n, b)
		var want [][]int
		for _, image := range images(t, n, a) {
			want = append(want, substitute(image, func(k int) []int { return second[k-1] }))
		}
		if got := images(t, n, slices.Concat(a, b)); !sameImages(got, want) {
			t.Errorf("on %d strands: %v for %v and %v, want %v", n, got, a, b, want)
		}
	}
}

// P9.1: every automorphism of a braid maps the product x1 ... xn to itself.
func TestProductOfImages(t *testing.T) {
	for _, c := range samples(12) {
		want := slices.Concat(images(t, c.n, nil)...)
		if got := plainReduce(slices.Concat(images(t, c.n, c.w)...)); !slices.Equal(got, want) {
			t.Errorf("product of Images(%d, %v): %v", c.n, c.w, got)
		}
	}
}

// P9.1: each image is a reduced word, conjugate to the generator of the position where the strand ends.
func TestImagesAreConjugates(t *testing.T) {
	for _, c := range samples(12) {
		p, _ := braid.Permutation(c.n, c.w)
		for k, image := range images(t, c.n, c.w) {
			if !slices.Equal(image, plainReduce(image)) {
				t.Errorf("Images(%d, %v): %v is not reduced", c.n, c.w, image)
			}
			if len(image) > api.MaxWord {
				continue
			}
			if is, e := freegroup.Conjugate(image, []int{p[k] + 1}); !is || e != api.OK {
				t.Errorf("Images(%d, %v): %v is not a conjugate of %d", c.n, c.w, image, p[k]+1)
			}
		}
	}
}

// P9.1: ErrTooLarge concerns the images under the word and under its ends, in reduced form.
func TestImagesTooLarge(t *testing.T) {
	inverse := plainInverse(growing)
	for _, c := range []struct {
		n    int
		w    []int
		want api.Errno
	}{
		{3, fitting, api.OK},
		{6, shift(fitting, 3), api.OK},
		{3, exceeding, api.ErrTooLarge},
		{4, exceeding, api.ErrTooLarge},
		{6, shift(exceeding, 3), api.ErrTooLarge},

		// The word is the shortest end with an image that is too large.
		{3, growing[1:], api.OK},
		{3, growing, api.ErrTooLarge},
		{3, append([]int{2}, growing[1:]...), api.OK},

		// Only an end has an image that is too large: 3191 letters.
		{3, slices.Concat([]int{1}, growing), api.ErrTooLarge},
		{3, slices.Concat(inverse, growing), api.ErrTooLarge},
		{6, slices.Concat(shift(inverse, 3), shift(growing, 3)), api.ErrTooLarge},
		{3, slices.Concat([]int{1, -1}, growing), api.ErrTooLarge},

		// Only the beginning has one.
		{3, slices.Concat(growing, inverse), api.OK},
		{6, slices.Concat(shift(growing, 3), shift(inverse, 3)), api.OK},
		{3, slices.Concat(growing, inverse[:1]), api.OK},

		// Without reduction, the images would be too large.
		{2, repeat(15, 1, -1), api.OK},
		{2, repeat(15, -1, 1), api.OK},
		{6, repeat(7, 5, -5, 4, -4), api.OK},

		{3, repeat(15, 1, -2), api.ErrTooLarge},
		{3, repeat(15, -1, 2), api.ErrTooLarge},
		{6, repeat(15, 5, -4), api.ErrTooLarge},
	} {
		l, e := Images(c.n, c.w)
		if e != c.want || plainError(c.n, c.w) != c.want {
			t.Errorf("Images(%d, %v) has error %d, want %d", c.n, c.w, e, c.want)
		}
		if e == api.OK && !sameImages(l, plainImages(c.n, c.w)) || e != api.OK && len(l) != 0 {
			t.Errorf("Images(%d, %v) = %v, %d", c.n, c.w, l, e)
		}
	}
}

// The words named above are what they are said to be.
func TestLongestImages(t *testing.T) {
	for _, c := range []struct {
		w    []int
		want int
	}{{fitting, 2999}, {exceeding, 3001}, {growing, 3191}, {growing[1:], 1971}, {plainInverse(growing), 1219}} {
		if got := longest(plainImages(3, c.w)); got != c.want {
			t.Errorf("longest image of %v: %d, want %d", c.w, got, c.want)
		}
	}
	if e := plainError(3, exceeding[1:]); e != api.OK {
		t.Error("error of an end:", e)
	}
}

// errorCases are words with their error of Images.
var errorCases = []struct {
	n    int
	w    []int
	want api.Errno
}{
	{0, nil, api.ErrArgument},
	{-1, nil, api.ErrArgument},
	{7, nil, api.ErrArgument},
	{math.MinInt, []int{1}, api.ErrArgument},
	{math.MaxInt, []int{1}, api.ErrArgument},
	{2, repeat(31, 1), api.ErrTooLarge},
	{6, repeat(500, 1, -1), api.ErrTooLarge},
	{1, []int{1}, api.ErrMalformed},
	{2, []int{0}, api.ErrMalformed},
	{2, []int{2}, api.ErrMalformed},
	{2, []int{-2}, api.ErrMalformed},
	{3, []int{1, 2, 3}, api.ErrMalformed},
	{3, []int{-3, 2, 1}, api.ErrMalformed},
	{6, []int{math.MinInt}, api.ErrMalformed},
	{6, []int{math.MaxInt}, api.ErrMalformed},
	{3, exceeding, api.ErrTooLarge},

	// Several errors: the strands come first, then the length, then the letters, then the images.
	{0, repeat(31, 0), api.ErrArgument},
	{7, exceeding, api.ErrArgument},
	{0, []int{0}, api.ErrArgument},
	{2, repeat(31, 0), api.ErrTooLarge},
	{2, exceeding, api.ErrMalformed},
	{3, append([]int{3}, exceeding...), api.ErrMalformed},
	{3, append([]int{0}, exceeding...), api.ErrMalformed},
	{3, append(slices.Clone(exceeding), 3), api.ErrMalformed},
}

// P9.1: the error of braid.Check comes first.
func TestErrorsOfImages(t *testing.T) {
	for _, c := range errorCases {
		if l, e := Images(c.n, c.w); e != c.want || len(l) != 0 {
			t.Errorf("Images(%d, %v) = %v, %d, want error %d", c.n, c.w, l, e, c.want)
		}
		if e := braid.Check(c.n, c.w); e != api.OK && e != c.want {
			t.Errorf("Check(%d, %v) = %d, but the error should be %d", c.n, c.w, e, c.want)
		}
	}
}
