package braid

import (
	"fmt"
	"math"
	"slices"
	"testing"

	"timbrel/api"
)

// The general rules Z1 to Z4, for every function of the package.

// outcome is what all functions returned for a word on n strands.
type outcome struct {
	check            api.Errno
	permutation      []int
	permutationError api.Errno
	sum              int
	sumError         api.Errno
	inverse          []int
	inverseError     api.Errno
	burau            matrix
	burauError       api.Errno
}

func outcomeOf(n int, w []int) outcome {
	o := outcome{check: Check(n, w)}
	o.permutation, o.permutationError = Permutation(n, w)
	o.sum, o.sumError = ExponentSum(n, w)
	o.inverse, o.inverseError = Inverse(n, w)
	o.burau, o.burauError = Burau(n, w)
	return o
}

// slices returns all slices of numbers among the results.
func (o outcome) slices() [][]int {
	all := [][]int{o.permutation, o.inverse}
	for _, line := range o.burau {
		for _, p := range line {
			all = append(all, p.C)
		}
	}
	return all
}

var goodCases = []braidCase{
	{1, nil},
	{2, nil},
	{6, nil},
	{2, []int{1}},
	{2, []int{-1}},
	{3, []int{1, -1}},
	{3, []int{1, 2, -1, 2}},
	{6, []int{1, -3, 5}},
	{4, repeat(8, 1, -2)},
	{2, repeat(30, 1)},
	{6, repeat(10, 5, 4, -3)},
}

// anyCases returns words with and without errors.
func anyCases() []braidCase {
	all := slices.Clone(goodCases)
	for _, c := range checkCases {
		all = append(all, braidCase{c.n, c.w})
	}
	return append(all, braidCase{3, repeat(17, 1)}, braidCase{3, repeat(17, 3)})
}

// Z1: no panic, whatever the arguments are.
func TestNoPanic(t *testing.T) {
	some := []int{math.MinInt, math.MinInt + 1, -7, -6, -5, -1, 0, 1, 2, 5, 6, 7, 1<<32 + 1, math.MaxInt}
	long := [][]int{nil, make([]int, 100000), repeat(100000, 1), repeat(17, 1)}
	for _, n := range append([]int{3, 4}, some...) {
		for _, c := range anyCases() {
			outcomeOf(n, c.w)
		}
		for _, w := range long {
			outcomeOf(n, w)
		}
		for _, x := range some {
			for _, y := range some {
				outcomeOf(n, []int{x, y})
			}
		}
	}
}

// spared returns a copy of a word in front of spare capacity, and the whole memory.
func spared(w []int) ([]int, []int) {
	whole := append(slices.Clone(w), 5, -5, 4, 77)
	return whole[:len(w)], whole
}

// Z2: arguments are not modified, including the memory behind their length.
func TestArgumentsStay(t *testing.T) {
	for _, c := range anyCases() {
		w, whole := spared(c.w)
		want := slices.Clone(whole)
		outcomeOf(c.n, w)
		if !slices.Equal(whole, want) {
			t.Errorf("argument %v became %v", want, whole)
		}
	}
}

// fill overwrites a slice and its spare capacity.
func fill(l []int, x int) {
	l = l[:cap(l)]
	for i := range l {
		l[i] = x
	}
}

// Z2: results share no memory with arguments or with other results.
func TestResultsAreNewMemory(t *testing.T) {
	for _, c := range goodCases {
		w, whole := spared(c.w)
		all := slices.Concat([][]int{whole}, outcomeOf(c.n, w).slices(), outcomeOf(c.n, w).slices())
		for i, l := range all {
			fill(l, 1000+i)
		}
		for i, l := range all {
			if slices.ContainsFunc(l[:cap(l)], func(x int) bool { return x != 1000+i }) {
				t.Errorf("(%d, %v): result %d shares memory", c.n, c.w, i)
			}
		}
	}
}

// Z2: the rows of a matrix share no memory, including their spare capacity.
func TestRowsAreNewMemory(t *testing.T) {
	for _, c := range goodCases {
		rows := slices.Concat(outcomeOf(c.n, c.w).burau, outcomeOf(c.n, c.w).burau)
		for i, l := range rows {
			l = l[:cap(l)]
			for j := range l {
				l[j] = poly(1000 + i)
			}
		}
		for i, l := range rows {
			if slices.ContainsFunc(l[:cap(l)], func(p api.Poly) bool { return p.Low != 1000+i }) {
				t.Errorf("(%d, %v): row %d shares memory", c.n, c.w, i)
			}
		}
	}
}

// Z2: a result depends only on the arguments, not on calls before or on what became of their results.
func TestNoStateBetweenCalls(t *testing.T) {
	some := []int{1, -2, 3, 1, -3}
	want := fmt.Sprint(outcomeOf(4, some))
	for _, c := range anyCases() {
		for _, l := range outcomeOf(c.n, c.w).slices() {
			fill(l, -1)
		}
		if got := fmt.Sprint(outcomeOf(4, some)); got != want {
			t.Errorf("after calls with (%d, %v): %s, want %s", c.n, c.w, got, want)
		}
	}
}

// Z3: with an error, the other result is the zero value.
func TestZeroValuesWithErrors(t *testing.T) {
	for _, c := range anyCases() {
		o := outcomeOf(c.n, c.w)
		if o.permutationError != api.OK && len(o.permutation) > 0 {
			t.Errorf("Permutation(%d, %v) = %v with error %d", c.n, c.w, o.permutation, o.permutationError)
		}
		if o.sumError != api.OK && o.sum != 0 {
			t.Errorf("ExponentSum(%d, %v) = %d with error %d", c.n, c.w, o.sum, o.sumError)
		}
		if o.inverseError != api.OK && len(o.inverse) > 0 {
			t.Errorf("Inverse(%d, %v) = %v with error %d", c.n, c.w, o.inverse, o.inverseError)
		}
		if o.burauError != api.OK && len(o.burau) > 0 {
			t.Errorf("Burau(%d, %v) = %v with error %d", c.n, c.w, o.burau, o.burauError)
		}
	}
}

// Z4: an empty slice serves like a nil one.
func TestEmptyIsNil(t *testing.T) {
	for _, empty := range [][]int{{}, make([]int, 0, 5), []int{1, 2}[:0]} {
		for n := -1; n <= api.MaxStrands+1; n++ {
			if got, want := fmt.Sprint(outcomeOf(n, empty)), fmt.Sprint(outcomeOf(n, nil)); got != want {
				t.Errorf("%s for an empty slice on %d strands, want %s", got, n, want)
			}
		}
	}
}
