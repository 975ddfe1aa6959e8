package alexander

import (
	"fmt"
	"math"
	"slices"
	"testing"

	"timbrel/api"
	"timbrel/laurent"
)

// The general rules Z1 to Z4, for every function of the package.

// outcome is what all functions returned for a word on n strands.
type outcome struct {
	polynomial   api.Poly
	polynomialE  api.Errno
	determinant  int
	determinantE api.Errno
}

func outcomeOf(n int, w []int) outcome {
	var o outcome
	o.polynomial, o.polynomialE = Polynomial(n, w)
	o.determinant, o.determinantE = Determinant(n, w)
	return o
}

// anyCases returns words with and without errors.
func anyCases() []braidCase {
	all := samples(6)
	for _, c := range errorCases {
		all = append(all, braidCase{c.n, c.w})
	}
	return append(all, longWords()...)
}

// Z1: no panic, whatever the arguments are.
func TestNoPanic(t *testing.T) {
	some := []int{math.MinInt, math.MinInt + 1, -31, -7, -6, -5, -1, 0, 1, 2, 3, 5, 6, 7, 31, 1<<32 + 1, math.MaxInt}
	for _, n := range some {
		for _, w := range [][]int{nil, make([]int, 100000), repeat(100000, 1), repeat(10, 1, -2)} {
			outcomeOf(n, w)
		}
		for _, c := range errorCases {
			outcomeOf(n, c.w)
		}
		for _, x := range some {
			for _, y := range some {
				outcomeOf(n, []int{x, y})
			}
		}
	}
}

// spared returns a copy of a word in front of spare capacity, and the whole memory.
func spared(w []int) ([]int, []int) {
	whole := append(slices.Clone(w), 5, -5, 4, 77)
	return whole[:len(w)], whole
}

// Z2: arguments are not modified, including the memory behind their length.
func TestArgumentsStay(t *testing.T) {
	for _, c := range anyCases() {
		w, whole := spared(c.w)
		want := slices.Clone(whole)
		outcomeOf(c.n, w)
		if !slices.Equal(whole, want) {
			t.Errorf("argument %v became %v", want, whole)
		}
	}
}

// fill overwrites a slice and its spare capacity.
func fill(l []int, x int) {
	l = l[:cap(l)]
	for i := range l {
		l[i] = x
	}
}

// Z2: results share no memory with arguments or with other results.
func TestResultsAreNewMemory(t *testing.T) {
	for _, c := range anyCases() {
		w, whole := spared(c.w)
		all := [][]int{whole, outcomeOf(c.n, w).polynomial.C, outcomeOf(c.n, w).polynomial.C}
		for i, l := range all {
			fill(l, 1000+i)
		}
		for i, l := range all {
			if slices.ContainsFunc(l[:cap(l)], func(x int) bool { return x != 1000+i }) {
				t.Errorf("(%d, %v): slice %d shares memory", c.n, c.w, i)
			}
		}
	}
}

// Z2: a result depends only on the arguments, not on calls before or on what became of their results.
func TestNoStateBetweenCalls(t *testing.T) {
	some := []int{1, -2, 3, 1, -3, -1, 2}
	want := fmt.Sprint(outcomeOf(4, some))
	for _, c := range anyCases() {
		fill(outcomeOf(c.n, c.w).polynomial.C, -1)
		if got := fmt.Sprint(outcomeOf(4, some)); got != want {
			t.Errorf("after calls with (%d, %v): %s, want %s", c.n, c.w, got, want)
		}
	}
}

// Z3: with an error, the other result is the zero value.
func TestZeroValuesWithErrors(t *testing.T) {
	for _, c := range anyCases() {
		o := outcomeOf(c.n, c.w)
		if o.polynomialE != api.OK && !same(o.polynomial, api.Poly{}) {
			t.Errorf("Polynomial(%d, %v) = %v with error %d", c.n, c.w, o.polynomial, o.polynomialE)
		}
		if o.determinantE != api.OK && o.determinant != 0 {
			t.Errorf("Determinant(%d, %v) = %d with error %d", c.n, c.w, o.determinant, o.determinantE)
		}
	}
}

// Z4: an empty slice serves like a nil one.
func TestEmptyIsNil(t *testing.T) {
	for _, empty := range [][]int{{}, make([]int, 0, 5), []int{1, 2}[:0]} {
		for n := -1; n <= api.MaxStrands+1; n++ {
			if got, want := fmt.Sprint(outcomeOf(n, empty)), fmt.Sprint(outcomeOf(n, nil)); got != want {
				t.Errorf("%s for an empty slice on %d strands, want %s", got, n, want)
			}
		}
	}
}

// Results are polynomials that laurent.Check accepts, and that laurent.Normalize leaves as they are.
func TestResultsAreNormalized(t *testing.T) {
	for _, c := range append(samples(api.MaxAlexander), longWords()...) {
		p := outcomeOf(c.n, c.w).polynomial
		if q, e := laurent.Normalize(p); e != api.OK || !same(p, q) {
			t.Errorf("(%d, %v): %v, normalized %v with error %d", c.n, c.w, p, q, e)
		}
	}
}
