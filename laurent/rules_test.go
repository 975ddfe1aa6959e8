package laurent

import (
	"fmt"
	"math"
	"slices"
	"testing"

	"timbrel/api"
)

// The general rules Z1 to Z4, for every function of the package.

// outcome is what one function returned: a polynomial or a number, and the error.
type outcome struct {
	name   string
	p      api.Poly
	number int
	e      api.Errno
}

// outcomes calls every function.
func outcomes(a, b api.Poly, x int) []outcome {
	sum, addError := Add(a, b)
	difference, subError := Sub(a, b)
	product, mulError := Mul(a, b)
	quotient, divError := Div(a, b)
	value, evalError := Eval(a, x)
	conjugate, conjugateError := Conjugate(a)
	normal, normalizeError := Normalize(a)
	return []outcome{
		{"Check", api.Poly{}, 0, Check(a)},
		{"Add", sum, 0, addError},
		{"Sub", difference, 0, subError},
		{"Mul", product, 0, mulError},
		{"Div", quotient, 0, divError},
		{"Eval", api.Poly{}, value, evalError},
		{"Conjugate", conjugate, 0, conjugateError},
		{"Normalize", normal, 0, normalizeError},
	}
}

var anyNumbers = []int{math.MinInt, -2, -1, 0, 1, 2, math.MaxInt}

var goodPolys = []api.Poly{
	poly(0),
	poly(0, 1),
	poly(0, -1),
	poly(3, 5),
	poly(-3, 1, 0, -1),
	poly(0, 1, 1),
	poly(0, 1, -1),
	poly(2, 6, 5, 1),
	poly(-8, -3, -1),
	poly(1000, 1, 1),
	poly(-1000, 1),
	poly(0, 100000000, 1),
	long(0, 200, 1),
	long(-100, 200, -1),
	long(7, 100, 1),
}

// anyPolys returns polynomials with and without errors.
func anyPolys() []api.Poly {
	all := slices.Clone(goodPolys)
	for _, c := range checkCases {
		all = append(all, c.p)
	}
	return all
}

// Z1: no panic, whatever the arguments are.
func TestNoPanic(t *testing.T) {
	all := anyPolys()
	numbers := []int{math.MinInt, math.MinInt + 1, -100000001, -1, 0, 1, 100000000, math.MaxInt}
	for _, low := range []int{math.MinInt, -1001, -1000, 0, 1000, 1001, math.MaxInt} {
		for _, x := range numbers {
			all = append(all, poly(low, x), poly(low, 1, x), poly(low, x, 1), poly(low, 1, x, -1))
		}
	}
	for _, a := range all {
		for _, b := range all {
			outcomes(a, b, -1)
		}
		for _, x := range anyNumbers {
			outcomes(a, a, x)
		}
	}
}

// spared returns a copy of a polynomial in front of spare capacity, and the whole memory.
func spared(p api.Poly) (api.Poly, []int) {
	whole := append(slices.Clone(p.C), 5, -5, 4, 77)
	return poly(p.Low, whole[:len(p.C)]...), whole
}

// Z2: arguments are not modified, including the memory behind their length.
func TestArgumentsStay(t *testing.T) {
	for _, p := range anyPolys() {
		for _, q := range anyPolys() {
			a, wholeA := spared(p)
			b, wholeB := spared(q)
			wantA, wantB := slices.Clone(wholeA), slices.Clone(wholeB)
			outcomes(a, b, -1)
			if !slices.Equal(wholeA, wantA) || !slices.Equal(wholeB, wantB) {
				t.Errorf("arguments %v and %v became %v and %v", wantA, wantB, wholeA, wholeB)
			}
		}
	}
}

// fill overwrites a slice and its spare capacity.
func fill(l []int, x int) {
	l = l[:cap(l)]
	for i := range l {
		l[i] = x
	}
}

// Z2: results share no memory with arguments or with other results.
func TestResultsAreNewMemory(t *testing.T) {
	for _, p := range goodPolys {
		for _, q := range goodPolys {
			a, wholeA := spared(p)
			b, wholeB := spared(q)
			all := [][]int{wholeA, wholeB}
			for _, o := range append(outcomes(a, b, 1), outcomes(a, b, 1)...) {
				all = append(all, o.p.C)
			}
			for i, l := range all {
				fill(l, 1000+i)
			}
			for i, l := range all {
				if slices.ContainsFunc(l[:cap(l)], func(x int) bool { return x != 1000+i }) {
					t.Errorf("%v, %v: result %d shares memory", p, q, i)
				}
			}
		}
	}
}

// Z2: both arguments may share memory.
func TestArgumentsMayShareMemory(t *testing.T) {
	line := []int{1, 2, 1, -1}
	shared := outcomes(poly(0, line[:3]...), poly(1, line[1:]...), -1)
	apart := outcomes(poly(0, 1, 2, 1), poly(1, 2, 1, -1), -1)
	if got, want := fmt.Sprint(shared), fmt.Sprint(apart); got != want {
		t.Errorf("%s with shared memory, want %s", got, want)
	}
	p := poly(-1, 3, 2, 1)
	if got, want := fmt.Sprint(outcomes(p, p, -1)), fmt.Sprint(outcomes(poly(-1, 3, 2, 1), poly(-1, 3, 2, 1), -1)); got != want {
		t.Errorf("%s for the same polynomial twice, want %s", got, want)
	}
}

// Z2: a result depends only on the arguments, not on calls before or on what became of their results.
func TestNoStateBetweenCalls(t *testing.T) {
	a, b := poly(-2, 6, 5, 1), poly(3, 3, 1)
	want := fmt.Sprint(outcomes(a, b, -1))
	for _, p := range anyPolys() {
		for _, o := range outcomes(p, a, 1) {
			fill(o.p.C, -1)
		}
		if got := fmt.Sprint(outcomes(a, b, -1)); got != want {
			t.Errorf("after calls with %v: %s, want %s", p, got, want)
		}
	}
}

// Z3: with an error, all other results are zero values.
func TestZeroValuesWithErrors(t *testing.T) {
	for _, a := range anyPolys() {
		for _, b := range anyPolys() {
			for _, x := range anyNumbers {
				for _, o := range outcomes(a, b, x) {
					if o.e != api.OK && (o.p.Low != 0 || len(o.p.C) > 0 || o.number != 0) {
						t.Errorf("%s of %v, %v and %d: results %v and %d with error %d", o.name, a, b, x, o.p, o.number, o.e)
					}
				}
			}
		}
	}
}

// Results are polynomials that Check accepts.
func TestResultsAreAccepted(t *testing.T) {
	for _, a := range goodPolys {
		for _, b := range goodPolys {
			for _, o := range outcomes(a, b, 1) {
				if e := Check(o.p); e != api.OK {
					t.Errorf("%s of %v and %v: %v with error %d of Check", o.name, a, b, o.p, e)
				}
			}
		}
	}
}

// Z4: an empty slice serves like a nil one.
func TestEmptyIsNil(t *testing.T) {
	for _, empty := range [][]int{{}, make([]int, 0, 5), []int{1, 2}[:0]} {
		for _, low := range []int{0, 1, -1001} {
			some, none := poly(low, empty...), poly(low)
			for _, p := range anyPolys() {
				if got, want := fmt.Sprint(outcomes(some, p, 1)), fmt.Sprint(outcomes(none, p, 1)); got != want {
					t.Errorf("%s for an empty slice, want %s", got, want)
				}
				if got, want := fmt.Sprint(outcomes(p, some, 1)), fmt.Sprint(outcomes(p, none, 1)); got != want {
					t.Errorf("%s for an empty slice, want %s", got, want)
				}
			}
		}
	}
}
