package freegroup

import (
	"fmt"
	"math"
	"slices"
	"testing"

	"timbrel/api"
)

// The general rules Z1 to Z4, for every function of the package.

// outcome is what one function returned: its slices, its other results, and its error.
type outcome struct {
	name  string
	words [][]int
	other any
	e     api.Errno
}

// outcomes calls every function for two words.
func outcomes(a, b []int) []outcome {
	reduced, reduceError := Reduce(a)
	product, productError := Product(a, b)
	inverse, inverseError := Inverse(a)
	core, u, coreError := CyclicReduction(a)
	is, conjugateError := Conjugate(a, b)
	root, k, rootError := Root(a)
	return []outcome{
		{"Check", nil, 0, Check(a)},
		{"Reduce", [][]int{reduced}, 0, reduceError},
		{"Product", [][]int{product}, 0, productError},
		{"Inverse", [][]int{inverse}, 0, inverseError},
		{"CyclicReduction", [][]int{core, u}, 0, coreError},
		{"Conjugate", nil, is, conjugateError},
		{"Root", [][]int{root}, k, rootError},
	}
}

func slicesOf(l []outcome) [][]int {
	var all [][]int
	for _, o := range l {
		all = append(all, o.words...)
	}
	return all
}

var goodWords = [][]int{
	nil,
	{1},
	{1, -1},
	{1, 2, 3, -2, -1},
	{3, 1, 1, -3},
	{1, 2, -2, -1, 3, 4, 3, 4},
	{-6, 2, -2, 5},
	repeat(60, 1),
	long(60),
	append(long(30), plainInverse(long(30))...),
}

// anyWords returns words with and without errors.
func anyWords() [][]int {
	all := slices.Clone(goodWords)
	for _, c := range checkCases {
		all = append(all, c.w)
	}
	return all
}

// Z1: no panic, whatever the arguments are.
func TestNoPanic(t *testing.T) {
	numbers := []int{math.MinInt, math.MinInt + 1, -7, -6, -1, 0, 1, 6, 7, 1 << 32, math.MaxInt}
	all := append(anyWords(), make([]int, 100000), repeat(100000, 1))
	all = append(all, words(2, numbers...)...)
	for _, a := range all {
		for _, b := range all {
			outcomes(a, b)
		}
	}
}

// spared returns a copy of a word in front of spare capacity, and the whole memory.
func spared(w []int) ([]int, []int) {
	whole := append(slices.Clone(w), 5, -5, 4, 77)
	return whole[:len(w)], whole
}

// Z2: arguments are not modified, including the memory behind their length.
func TestArgumentsStay(t *testing.T) {
	for _, v := range anyWords() {
		for _, w := range anyWords() {
			a, wholeA := spared(v)
			b, wholeB := spared(w)
			wantA, wantB := slices.Clone(wholeA), slices.Clone(wholeB)
			outcomes(a, b)
			if !slices.Equal(wholeA, wantA) || !slices.Equal(wholeB, wantB) {
				t.Errorf("arguments %v and %v became %v and %v", wantA, wantB, wholeA, wholeB)
			}
		}
	}
}

// fill overwrites a slice and its spare capacity.
func fill(l []int, x int) {
	l = l[:cap(l)]
	for i := range l {
		l[i] = x
	}
}

// Z2: results share no memory with arguments, with other results, or with each other.
func TestResultsAreNewMemory(t *testing.T) {
	for _, v := range goodWords {
		for _, w := range goodWords {
			a, wholeA := spared(v)
			b, wholeB := spared(w)
			all := append(slicesOf(outcomes(a, b)), slicesOf(outcomes(a, b))...)
			all = append(all, wholeA, wholeB)
			for i, l := range all {
				fill(l, 1000+i)
			}
			for i, l := range all {
				if slices.ContainsFunc(l[:cap(l)], func(x int) bool { return x != 1000+i }) {
					t.Errorf("%v, %v: result %d shares memory", v, w, i)
				}
			}
		}
	}
}

// Z2: a result depends only on the arguments, not on calls before or on what became of their results.
func TestNoStateBetweenCalls(t *testing.T) {
	a, b := []int{3, 1, 2, 1, 2, -3}, []int{2, 1, 2, 1}
	want := fmt.Sprint(outcomes(a, b))
	for _, v := range anyWords() {
		for _, l := range slicesOf(outcomes(v, a)) {
			fill(l, -1)
		}
		if got := fmt.Sprint(outcomes(a, b)); got != want {
			t.Errorf("after calls with %v: %s, want %s", v, got, want)
		}
	}
}

// Z3: with an error, all other results are zero values.
func TestZeroValuesWithErrors(t *testing.T) {
	for _, a := range anyWords() {
		for _, b := range anyWords() {
			for _, o := range outcomes(a, b) {
				if o.e == api.OK {
					continue
				}
				empty := !slices.ContainsFunc(o.words, func(w []int) bool { return len(w) > 0 })
				if !empty || o.other != 0 && o.other != false {
					t.Errorf("%s of %v and %v: results %v and %v with error %d", o.name, a, b, o.words, o.other, o.e)
				}
			}
		}
	}
}

// Z4: an empty slice serves like a nil one.
func TestEmptyIsNil(t *testing.T) {
	for _, empty := range [][]int{{}, make([]int, 0, 5), long(3)[:0]} {
		for _, w := range anyWords() {
			if got, want := fmt.Sprint(outcomes(empty, w)), fmt.Sprint(outcomes(nil, w)); got != want {
				t.Errorf("%s for an empty slice, want %s", got, want)
			}
			if got, want := fmt.Sprint(outcomes(w, empty)), fmt.Sprint(outcomes(w, nil)); got != want {
				t.Errorf("%s for an empty slice, want %s", got, want)
			}
		}
	}
}
