package foxcalc

import (
	"fmt"
	"slices"
	"testing"

	"timbrel/api"
	"timbrel/laurent"
)

// The general rules Z1 to Z4, for every function of the package.

// outcome is what both functions returned for a word and a generator.
type outcome struct {
	exponent        int
	exponentError   api.Errno
	derivative      api.Poly
	derivativeError api.Errno
}

func outcomeOf(w []int, i int) outcome {
	exponent, exponentError := Exponent(w)
	derivative, derivativeError := Derivative(w, i)
	return outcome{exponent, exponentError, derivative, derivativeError}
}

var goodWords = [][]int{
	nil,
	{1},
	{-1},
	{2},
	{1, -1},
	{1, 2, -1},
	{1, 2, 1, -2, -1, -2},
	{-6, 2, -2, 5, 6},
	repeat(60, 1),
	repeat(60, -1),
	repeat(20, 1, 2, -3),
}

// anyWords returns words with and without errors.
func anyWords() [][]int {
	all := slices.Clone(goodWords)
	for _, c := range checkCases {
		all = append(all, c.w)
	}
	return all
}

// Z1: no panic, whatever the arguments are.
func TestNoPanic(t *testing.T) {
	all := append(anyWords(), make([]int, 100000), repeat(100000, 1))
	all = append(all, words(3, anyGenerators()...)...)
	for _, w := range all {
		for _, i := range anyGenerators() {
			outcomeOf(w, i)
		}
	}
}

// spared returns a copy of a word in front of spare capacity, and the whole memory.
func spared(w []int) ([]int, []int) {
	whole := append(slices.Clone(w), 5, -5, 4, 77)
	return whole[:len(w)], whole
}

// Z2: arguments are not modified, including the memory behind their length.
func TestArgumentsStay(t *testing.T) {
	for _, w := range anyWords() {
		for _, i := range anyGenerators() {
			v, whole := spared(w)
			want := slices.Clone(whole)
			outcomeOf(v, i)
			if !slices.Equal(whole, want) {
				t.Errorf("argument %v became %v", want, whole)
			}
		}
	}
}

// fill overwrites a slice and its spare capacity.
func fill(l []int, x int) {
	l = l[:cap(l)]
	for i := range l {
		l[i] = x
	}
}

// Z2: results share no memory with arguments or with other results.
func TestResultsAreNewMemory(t *testing.T) {
	for _, w := range goodWords {
		v, whole := spared(w)
		all := [][]int{whole}
		for i := 1; i <= api.MaxGenerators; i++ {
			all = append(all, outcomeOf(v, i).derivative.C, outcomeOf(v, i).derivative.C)
		}
		for i, l := range all {
			fill(l, 1000+i)
		}
		for i, l := range all {
			if slices.ContainsFunc(l[:cap(l)], func(x int) bool { return x != 1000+i }) {
				t.Errorf("%v: result %d shares memory", w, i)
			}
		}
	}
}

// Z2: a result depends only on the arguments, not on calls before or on what became of their results.
func TestNoStateBetweenCalls(t *testing.T) {
	some := []int{3, 1, 2, -1, 2, -3}
	want := fmt.Sprint(outcomeOf(some, 1), outcomeOf(some, 2))
	for _, w := range anyWords() {
		for _, i := range anyGenerators() {
			fill(outcomeOf(w, i).derivative.C, -1)
			if got := fmt.Sprint(outcomeOf(some, 1), outcomeOf(some, 2)); got != want {
				t.Errorf("after calls with %v and %d: %s, want %s", w, i, got, want)
			}
		}
	}
}

// Z3: with an error, the other result is the zero value.
func TestZeroValuesWithErrors(t *testing.T) {
	for _, w := range anyWords() {
		for _, i := range anyGenerators() {
			o := outcomeOf(w, i)
			if o.exponentError != api.OK && o.exponent != 0 {
				t.Errorf("Exponent(%v) = %d with error %d", w, o.exponent, o.exponentError)
			}
			if o.derivativeError != api.OK && (o.derivative.Low != 0 || len(o.derivative.C) > 0) {
				t.Errorf("Derivative(%v, %d) = %v with error %d", w, i, o.derivative, o.derivativeError)
			}
		}
	}
}

// Z4: an empty slice serves like a nil one.
func TestEmptyIsNil(t *testing.T) {
	for _, empty := range [][]int{{}, make([]int, 0, 5), []int{1, 2}[:0]} {
		for _, i := range anyGenerators() {
			if got, want := fmt.Sprint(outcomeOf(empty, i)), fmt.Sprint(outcomeOf(nil, i)); got != want {
				t.Errorf("%s for an empty slice and %d, want %s", got, i, want)
			}
		}
	}
}

// Derivatives are polynomials that laurent.Check accepts.
func TestDerivativesAreAccepted(t *testing.T) {
	for _, w := range append(longWords(), goodWords...) {
		for i := 1; i <= api.MaxGenerators; i++ {
			p, _ := Derivative(w, i)
			if e := laurent.Check(p); e != api.OK {
				t.Errorf("Derivative(%v, %d) = %v with error %d of Check", w, i, p, e)
			}
		}
	}
}
