package artin

import (
	"fmt"
	"math"
	"slices"
	"testing"

	"timbrel/api"
)

// The general rules Z1 to Z4, for every function of the package.

func text(x any) string {
	return fmt.Sprint(x)
}

// outcome is what all functions returned for two words on n strands.
type outcome struct {
	images      [][]int
	imagesError api.Errno
	equal       bool
	equalError  api.Errno
}

func outcomeOf(n int, a, b []int) outcome {
	var o outcome
	o.images, o.imagesError = Images(n, a)
	o.equal, o.equalError = Equal(n, a, b)
	return o
}

var goodCases = []braidCase{
	{1, nil},
	{2, nil},
	{6, nil},
	{2, []int{1}},
	{2, []int{-1}},
	{3, []int{1, -1}},
	{3, []int{1, 2, -1, 2}},
	{6, []int{1, -3, 5}},
	{6, repeat(4, 1, -3, 5)},
	{2, repeat(30, 1)},
	{3, fitting},
}

// anyCases returns words with and without errors.
func anyCases() []braidCase {
	all := slices.Clone(goodCases)
	for _, c := range errorCases {
		all = append(all, braidCase{c.n, c.w})
	}
	return all
}

// Z1: no panic, whatever the arguments are.
func TestNoPanic(t *testing.T) {
	some := []int{math.MinInt, math.MinInt + 1, -7, -6, -5, -1, 0, 1, 2, 5, 6, 7, 1<<32 + 1, math.MaxInt}
	long := [][]int{nil, make([]int, 100000), repeat(100000, 1), repeat(15, 1, -2)}
	for _, n := range append([]int{3, 4}, some...) {
		for _, c := range anyCases() {
			for _, w := range long {
				outcomeOf(n, c.w, w)
				outcomeOf(n, w, c.w)
			}
		}
		for _, x := range some {
			for _, y := range some {
				outcomeOf(n, []int{x, y}, []int{y})
			}
		}
	}
}

// spared returns a copy of a word in front of spare capacity, and the whole memory.
func spared(w []int) ([]int, []int) {
	whole := append(slices.Clone(w), 5, -5, 4, 77)
	return whole[:len(w)], whole
}

// Z2: arguments are not modified, including the memory behind their length.
func TestArgumentsStay(t *testing.T) {
	for _, c := range anyCases() {
		a, first := spared(c.w)
		b, second := spared(c.w)
		want := slices.Clone(first)
		outcomeOf(c.n, a, b)
		if !slices.Equal(first, want) || !slices.Equal(second, want) {
			t.Errorf("arguments %v became %v and %v", want, first, second)
		}
	}
}

// fill overwrites a slice and its spare capacity.
func fill(l []int, x int) {
	l = l[:cap(l)]
	for i := range l {
		l[i] = x
	}
}

// Z2: results share no memory with arguments or with other results.
func TestResultsAreNewMemory(t *testing.T) {
	for _, c := range append(goodCases, samples(6)...) {
		w, whole := spared(c.w)
		all := slices.Concat([][]int{whole}, images(t, c.n, w), images(t, c.n, w))
		for i, l := range all {
			fill(l, 1000+i)
		}
		for i, l := range all {
			if slices.ContainsFunc(l[:cap(l)], func(x int) bool { return x != 1000+i }) {
				t.Errorf("(%d, %v): result %d shares memory", c.n, c.w, i)
			}
		}
	}
}

// Z2: two lists of images share no memory, including their spare capacity.
func TestListsAreNewMemory(t *testing.T) {
	for _, c := range goodCases {
		first, second := images(t, c.n, c.w), images(t, c.n, c.w)
		clear(first[:cap(first)])
		if !sameImages(second, images(t, c.n, c.w)) {
			t.Errorf("(%d, %v): the lists share memory", c.n, c.w)
		}
	}
}

// Z2: a result depends only on the arguments, not on calls before or on what became of their results.
func TestNoStateBetweenCalls(t *testing.T) {
	some := []int{1, -2, 3, 1, -3}
	want := text(outcomeOf(4, some, some))
	for _, c := range anyCases() {
		for _, l := range outcomeOf(c.n, c.w, nil).images {
			fill(l, -1)
		}
		if got := text(outcomeOf(4, some, some)); got != want {
			t.Errorf("after calls with (%d, %v): %s, want %s", c.n, c.w, got, want)
		}
	}
}

// Z3: with an error, the other result is the zero value.
func TestZeroValuesWithErrors(t *testing.T) {
	for _, c := range anyCases() {
		for _, b := range [][]int{nil, c.w, {1}, {7}} {
			o := outcomeOf(c.n, c.w, b)
			if o.imagesError != api.OK && len(o.images) > 0 {
				t.Errorf("Images(%d, %v) = %v with error %d", c.n, c.w, o.images, o.imagesError)
			}
			if o.equalError != api.OK && o.equal {
				t.Errorf("Equal(%d, %v, %v) is true with error %d", c.n, c.w, b, o.equalError)
			}
		}
	}
}

// Z4: an empty slice serves like a nil one.
func TestEmptyIsNil(t *testing.T) {
	for _, empty := range [][]int{{}, make([]int, 0, 5), []int{1, 2}[:0]} {
		for n := -1; n <= api.MaxStrands+1; n++ {
			if got, want := text(outcomeOf(n, empty, empty)), text(outcomeOf(n, nil, nil)); got != want {
				t.Errorf("%s for an empty slice on %d strands, want %s", got, n, want)
			}
			if got, want := text(outcomeOf(n, empty, nil)), text(outcomeOf(n, nil, empty)); got != want {
				t.Errorf("%s for an empty slice on %d strands, want %s", got, n, want)
			}
		}
	}
}
