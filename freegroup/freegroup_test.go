package freegroup

import (
	"fmt"
	"math"
	"slices"
	"testing"

	"timbrel/api"
)

// repeat returns k copies of the letters one after the other.
func repeat(k int, letters ...int) []int {
	return slices.Repeat(letters, k)
}

// words returns all words of up to n of the letters, the shortest ones first.
func words(n int, letters ...int) [][]int {
	all := [][]int{nil}
	for begin := 0; n > 0; n-- {
		end := len(all)
		for _, w := range all[begin:end] {
			for _, x := range letters {
				all = append(all, append(slices.Clone(w), x))
			}
		}
		begin = end
	}
	return all
}

func isReduced(w []int) bool {
	for i := 1; i < len(w); i++ {
		if w[i] == -w[i-1] {
			return false
		}
	}
	return true
}

func isCyclicallyReduced(w []int) bool {
	return isReduced(w) && (len(w) < 2 || w[0] != -w[len(w)-1])
}

// reducedWords returns those of the words that are reduced.
func reducedWords(n int, letters ...int) [][]int {
	return slices.DeleteFunc(words(n, letters...), func(w []int) bool { return !isReduced(w) })
}

// plainReduce deletes one pair of letters after the other, at any place, until there is none.
func plainReduce(w []int) []int {
	w = slices.Clone(w)
	for !isReduced(w) {
		for i := len(w) - 1; i > 0; i-- {
			if w[i] == -w[i-1] {
				w = slices.Delete(w, i-1, i+1)
				break
			}
		}
	}
	return w
}

func plainInverse(w []int) []int {
	w = slices.Clone(w)
	slices.Reverse(w)
	for i := range w {
		w[i] = -w[i]
	}
	return w
}

// long returns a reduced word of n letters that no rotation shortens.
func long(n int) []int {
	return repeat(10, 1, 2, 3, 4, 5, 6)[:n]
}

var checkCases = []struct {
	w    []int
	want api.Errno
}{
	{nil, api.OK},
	{[]int{}, api.OK},
	{[]int{1}, api.OK},
	{[]int{-1}, api.OK},
	{[]int{6, -6, 5, -5}, api.OK},
	{[]int{1, 2, 3, -2, -1}, api.OK},
	{repeat(60, 6), api.OK},
	{repeat(30, -6, 6), api.OK},

	{repeat(61, 1), api.ErrTooLarge},
	{repeat(1000, 1, -1), api.ErrTooLarge},

	{[]int{0}, api.ErrArgument},
	{[]int{7}, api.ErrArgument},
	{[]int{-7}, api.ErrArgument},
	{[]int{math.MinInt}, api.ErrArgument},
	{[]int{math.MaxInt}, api.ErrArgument},
	{[]int{1, 2, 0}, api.ErrArgument},
	{[]int{0, 1, 2}, api.ErrArgument},
	{[]int{1, 7, -7, 2}, api.ErrArgument},
	{append(repeat(59, 1), 0), api.ErrArgument},
	{append(repeat(59, 1), 7), api.ErrArgument},
	{append(repeat(59, 1), -7), api.ErrArgument},

	// The number of letters comes first.
	{repeat(61, 0), api.ErrTooLarge},
	{repeat(61, 7), api.ErrTooLarge},
	{append([]int{-7}, repeat(60, 1)...), api.ErrTooLarge},
}

// P3.1

func TestCheck(t *testing.T) {
	for _, c := range checkCases {
		if e := Check(c.w); e != c.want {
			t.Errorf("Check(%v) = %d, want %d", c.w, e, c.want)
		}
	}
	for x := -10; x <= 10; x++ {
		want := api.ErrArgument
		if x != 0 && -6 <= x && x <= 6 {
			want = api.OK
		}
		if e := Check([]int{1, x}); e != want {
			t.Errorf("Check([1 %d]) = %d, want %d", x, e, want)
		}
	}
}

// TestErrorOfCheckComesFirst: all other functions return the error of Check for each word, in order.
func TestErrorOfCheckComesFirst(t *testing.T) {
	for _, a := range checkCases {
		if a.want == api.OK {
			continue
		}
		_, reduceError := Reduce(a.w)
		_, inverseError := Inverse(a.w)
		_, _, coreError := CyclicReduction(a.w)
		_, _, rootError := Root(a.w)
		got := []api.Errno{reduceError, inverseError, coreError, rootError}
		if slices.ContainsFunc(got, func(e api.Errno) bool { return e != a.want }) {
			t.Errorf("%v: errors %v, want %d", a.w, got, a.want)
		}
	}
}

func TestErrorsOfTwoWords(t *testing.T) {
	for _, a := range checkCases {
		for _, b := range checkCases {
			want := a.want
			if want == api.OK {
				want = b.want
			}
			if want == api.OK {
				continue
			}
			_, productError := Product(a.w, b.w)
			_, conjugateError := Conjugate(a.w, b.w)
			if productError != want || conjugateError != want {
				t.Errorf("%v, %v: errors %d and %d, want %d", a.w, b.w, productError, conjugateError, want)
			}
		}
	}
}

// P3.2

func TestReduce(t *testing.T) {
	for _, c := range []struct{ w, want []int }{
		{nil, nil},
		{[]int{}, nil},
		{[]int{6}, []int{6}},
		{[]int{1, 1}, []int{1, 1}},
		{[]int{1, -1}, nil},
		{[]int{-1, 1}, nil},
		{[]int{1, 2, -2, -1, 3}, []int{3}},
		{[]int{3, 1, -2, 2, -1}, []int{3}},
		{[]int{1, -1, 1}, []int{1}},
		{[]int{-1, 1, -1}, []int{-1}},
		{[]int{1, 2, -1, -2}, []int{1, 2, -1, -2}},
		{[]int{1, 2, -1, 1, -2, -1}, nil},
		{repeat(60, 1), repeat(60, 1)},
		{repeat(30, 1, -1), nil},
		{append(repeat(30, 2), repeat(30, -2)...), nil},
		{append(repeat(31, 2), repeat(29, -2)...), []int{2, 2}},
	} {
		if w, e := Reduce(c.w); e != api.OK || !slices.Equal(w, c.want) {
			t.Errorf("Reduce(%v) = %v, %d, want %v", c.w, w, e, c.want)
		}
	}
}

func TestReduceOfAllShortWords(t *testing.T) {
	for _, w := range append(words(6, 1, -1, 2, -2), words(4, 1, -1, 4, 6, -6)...) {
		r, e := Reduce(w)
		if e != api.OK || !slices.Equal(r, plainReduce(w)) {
			t.Errorf("Reduce(%v) = %v, %d, want %v", w, r, e, plainReduce(w))
		}
	}
}

func TestProduct(t *testing.T) {
	for _, c := range []struct{ a, b, want []int }{
		{nil, nil, nil},
		{[]int{1}, nil, []int{1}},
		{nil, []int{1}, []int{1}},
		{[]int{1, 2}, []int{-2, 1}, []int{1, 1}},
		{[]int{1, 2}, []int{3, 4}, []int{1, 2, 3, 4}},
		{[]int{1, 2}, []int{-2, -1}, nil},
		{[]int{1, -1}, []int{2, -2}, nil},
		{[]int{1, 2, -2}, []int{3, -3, -1, 5}, []int{5}},
		{long(60), plainInverse(long(60)), nil},
		{long(60), repeat(30, 1, -1), long(60)},
		// Exactly as many letters as there may be.
		{repeat(30, 1), repeat(30, 1), repeat(60, 1)},
		{repeat(59, 1), repeat(1, 1), repeat(60, 1)},
		{repeat(60, 1), nil, repeat(60, 1)},
		{nil, repeat(60, -6), repeat(60, -6)},
		{append(repeat(30, 1), 2), append([]int{-2}, repeat(30, 1)...), repeat(60, 1)},
		{append(repeat(58, 1), 3, -3), []int{1, 1}, repeat(60, 1)},
	} {
		if w, e := Product(c.a, c.b); e != api.OK || !slices.Equal(w, c.want) {
			t.Errorf("Product(%v, %v) = %v, %d, want %v", c.a, c.b, w, e, c.want)
		}
	}
}

func TestProductOfAllShortWords(t *testing.T) {
	for _, a := range words(4, 1, -1, 2, -2) {
		for _, b := range words(3, 1, -1, 2, -2, 3) {
			want := plainReduce(slices.Concat(a, b))
			if w, e := Product(a, b); e != api.OK || !slices.Equal(w, want) {
				t.Errorf("Product(%v, %v) = %v, %d, want %v", a, b, w, e, want)
			}
		}
	}
}

func TestProductTooLarge(t *testing.T) {
	for _, c := range []struct{ a, b []int }{
		{repeat(60, 1), []int{1}},
		{[]int{1}, repeat(60, 1)},
		{repeat(60, 1), repeat(60, 1)},
		{repeat(31, 1), repeat(30, 1)},
		{long(60), []int{1}},
		{repeat(60, 1), []int{2, -2, 1}},
		{append(repeat(30, 1), 2), append([]int{-2}, repeat(31, 1)...)},
	} {
		if w, e := Product(c.a, c.b); e != api.ErrTooLarge || len(w) != 0 {
			t.Errorf("Product(%v, %v) = %v, %d", c.a, c.b, w, e)
		}
	}
}

func TestInverse(t *testing.T) {
	for _, c := range []struct{ w, want []int }{
		{nil, nil},
		{[]int{1}, []int{-1}},
		{[]int{-6}, []int{6}},
		{[]int{1, -2}, []int{2, -1}},
		{[]int{1, 2, 3}, []int{-3, -2, -1}},
		{[]int{1, -1}, nil},
		{[]int{1, 2, -2, 3}, []int{-3, -1}},
		{repeat(60, 5), repeat(60, -5)},
	} {
		if w, e := Inverse(c.w); e != api.OK || !slices.Equal(w, c.want) {
			t.Errorf("Inverse(%v) = %v, %d, want %v", c.w, w, e, c.want)
		}
	}
	for _, w := range words(5, 1, -1, 2, -2) {
		v, e := Inverse(w)
		if e != api.OK || !isReduced(v) || len(plainReduce(slices.Concat(w, v))) != 0 {
			t.Errorf("Inverse(%v) = %v, %d", w, v, e)
		}
	}
}

// P3.3

func TestCyclicReduction(t *testing.T) {
	for _, c := range []struct{ w, core, u []int }{
		{nil, nil, nil},
		{[]int{1}, []int{1}, nil},
		{[]int{1, -1}, nil, nil},
		{[]int{1, 2, -2, -1}, nil, nil},
		{[]int{1, 1}, []int{1, 1}, nil},
		{[]int{1, 2, 3, -2, -1}, []int{3}, []int{1, 2}},
		{[]int{1, 2, -1}, []int{2}, []int{1}},
		{[]int{-1, 2, 1}, []int{2}, []int{-1}},
		{[]int{1, 2, 3, -1}, []int{2, 3}, []int{1}},
		{[]int{1, 2, 1}, []int{1, 2, 1}, nil},
		{[]int{1, 2, -1, -2}, []int{1, 2, -1, -2}, nil},
		{[]int{2, 1, 2, -1, -2, -2}, []int{1, 2, -1, -2}, []int{2}},
		// The word is reduced first.
		{[]int{3, -3, 1, 2, 2, -1, 4, -4}, []int{2, 2}, []int{1}},
		{[]int{1, 2, -2, 5, 6, -6}, []int{1, 5}, nil},
		{slices.Concat(repeat(29, 1), []int{2, 2}, repeat(29, -1)), []int{2, 2}, repeat(29, 1)},
		{repeat(60, -3), repeat(60, -3), nil},
	} {
		core, u, e := CyclicReduction(c.w)
		if e != api.OK || !slices.Equal(core, c.core) || !slices.Equal(u, c.u) {
			t.Errorf("CyclicReduction(%v) = %v, %v, %d, want %v, %v", c.w, core, u, e, c.core, c.u)
		}
	}
}

func TestCyclicReductionOfAllShortWords(t *testing.T) {
	for _, w := range append(words(6, 1, -1, 2, -2), reducedWords(8, 3, -3, 6, -6)...) {
		c, u, e := CyclicReduction(w)
		whole := slices.Concat(u, c, plainInverse(u))
		if e != api.OK || !isCyclicallyReduced(c) || !slices.Equal(whole, plainReduce(w)) {
			t.Errorf("CyclicReduction(%v) = %v, %v, %d", w, c, u, e)
		}
	}
}

func TestConjugate(t *testing.T) {
	for _, c := range []struct {
		a, b []int
		want bool
	}{
		{nil, nil, true},
		{nil, []int{1, -1}, true},
		{[]int{2, 1, -1, -2}, []int{3, -3}, true},
		{nil, []int{1}, false},
		{[]int{1}, nil, false},
		{[]int{1}, []int{1}, true},
		{[]int{1}, []int{-1}, false},
		{[]int{1}, []int{2}, false},
		{[]int{1}, []int{1, 1}, false},
		{[]int{1, 1}, []int{1}, false},
		{[]int{1}, []int{2, 1, -2}, true},
		{[]int{3, 1, -3}, []int{-2, 1, 2}, true},
		{[]int{1, 2, 3}, []int{3, 1, 2}, true},
		{[]int{1, 2, 3}, []int{2, 3, 1}, true},
		{[]int{1, 2, 3}, []int{1, 3, 2}, false},
		{[]int{1, 2, 3}, []int{-3, -2, -1}, false},
		{[]int{1, 2, -1, -2}, []int{2, 1, -2, -1}, false},
		{[]int{1, 2, -1, -2}, []int{2, -1, -2, 1}, true},
		{[]int{1, 2, 1, 2}, []int{1, 1, 2, 2}, false},
		{[]int{1, 2, 1, 2}, []int{2, 1, 2, 1}, true},
		{[]int{5, 1, 2, -5}, []int{-6, 2, 1, 6, 3, -3}, true},
		{long(60), slices.Concat(long(60)[59:], long(59)), true},
		{long(60), plainInverse(long(60)), false},
		{append(repeat(59, 1), 2), slices.Concat(repeat(30, 1), []int{2}, repeat(29, 1)), true},
		{append(repeat(59, 1), 2), append(repeat(58, 1), 2, 2), false},
	} {
		if is, e := Conjugate(c.a, c.b); e != api.OK || is != c.want {
			t.Errorf("Conjugate(%v, %v) = %v, %d, want %v", c.a, c.b, is, e, c.want)
		}
	}
}

// TestConjugateOfAllShortWords searches the elements g: for words of up to 4 letters, g a g^-1 equals b for one of at most 4 letters if there is one.
func TestConjugateOfAllShortWords(t *testing.T) {
	elements := reducedWords(4, 1, -1, 2, -2)
	for _, a := range words(4, 1, -1, 2, -2) {
		var conjugates [][]int
		for _, g := range elements {
			conjugates = append(conjugates, plainReduce(slices.Concat(g, a, plainInverse(g))))
		}
		for _, b := range elements {
			want := slices.ContainsFunc(conjugates, func(w []int) bool { return slices.Equal(w, b) })
			if is, e := Conjugate(a, b); e != api.OK || is != want {
				t.Errorf("Conjugate(%v, %v) = %v, %d, want %v", a, b, is, e, want)
			}
			if is, e := Conjugate(b, a); e != api.OK || is != want {
				t.Errorf("Conjugate(%v, %v) = %v, %d, want %v", b, a, is, e, want)
			}
		}
	}
}

// P3.4

func TestRoot(t *testing.T) {
	for _, c := range []struct {
		w, u []int
		k    int
	}{
		{[]int{1}, []int{1}, 1},
		{[]int{-1}, []int{-1}, 1},
		{[]int{-1, -1}, []int{-1}, 2},
		{[]int{1, 2}, []int{1, 2}, 1},
		{[]int{1, 2, 1, 2}, []int{1, 2}, 2},
		{[]int{3, 1, 1, -3}, []int{3, 1, -3}, 2},
		{[]int{1, 2, 1}, []int{1, 2, 1}, 1},
		{[]int{1, 2, 1, 2, 1}, []int{1, 2, 1, 2, 1}, 1},
		{[]int{1, 1, 2, 2}, []int{1, 1, 2, 2}, 1},
		{[]int{1, 1, 2, 1, 1, 2}, []int{1, 1, 2}, 2},
		{[]int{1, 2, -1, -2}, []int{1, 2, -1, -2}, 1},
		{[]int{1, 2, -2, 1}, []int{1}, 2},
		{[]int{4, 1, 2, 1, 2, 1, 2, -4}, []int{4, 1, 2, -4}, 3},
		{[]int{5, 4, -1, -1, -1, -1, -4, -5}, []int{5, 4, -1, -4, -5}, 4},
		{repeat(60, 1), []int{1}, 60},
		{repeat(60, -6), []int{-6}, 60},
		{repeat(59, 1), []int{1}, 59},
		{repeat(30, 1, 2), []int{1, 2}, 30},
		{repeat(2, long(30)...), long(6), 10},
		{repeat(2, append(long(29), 1)...), append(long(29), 1), 2},
		{append(repeat(59, 1), 2), append(repeat(59, 1), 2), 1},
		{slices.Concat(repeat(20, 2), repeat(20, 1), repeat(20, -2)), slices.Concat(repeat(20, 2), []int{1}, repeat(20, -2)), 20},
	} {
		if u, k, e := Root(c.w); e != api.OK || k != c.k || !slices.Equal(u, c.u) {
			t.Errorf("Root(%v) = %v, %d, %d, want %v, %d", c.w, u, k, e, c.u, c.k)
		}
	}
}

func text(w []int) string { return fmt.Sprint(w) }

// powers maps each word of up to 6 letters, as a text, to its greatest exponent: a root has no more letters than its powers.
func powers() map[string]int {
	greatest := map[string]int{}
	for _, u := range reducedWords(6, 1, -1, 2, -2) {
		for k := 1; k <= 6; k++ {
			if w := plainReduce(repeat(k, u...)); len(w) <= 6 {
				greatest[text(w)] = max(greatest[text(w)], k)
			}
		}
	}
	return greatest
}

func TestRootOfAllShortWords(t *testing.T) {
	greatest := powers()
	for _, w := range words(6, 1, -1, 2, -2) {
		r := plainReduce(w)
		u, k, e := Root(w)
		if len(r) == 0 {
			if e != api.ErrNotFound {
				t.Errorf("Root(%v): error %d", w, e)
			}
			continue
		}
		if e != api.OK || k != greatest[text(r)] || !isReduced(u) || !slices.Equal(plainReduce(repeat(k, u...)), r) {
			t.Errorf("Root(%v) = %v, %d, %d, want exponent %d", w, u, k, e, greatest[text(r)])
		}
	}
}

func TestRootOfIdentity(t *testing.T) {
	for _, w := range [][]int{nil, {}, {1, -1}, {-6, 6}, {1, 2, -2, -1}, repeat(30, 1, -1), append(long(30), plainInverse(long(30))...)} {
		if u, k, e := Root(w); e != api.ErrNotFound || len(u) != 0 || k != 0 {
			t.Errorf("Root(%v) = %v, %d, %d", w, u, k, e)
		}
	}
}
