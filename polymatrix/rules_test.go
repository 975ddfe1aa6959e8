package polymatrix

import (
	"fmt"
	"math"
	"slices"
	"testing"

	"timbrel/api"
	"timbrel/laurent"
)

// The general rules Z1 to Z4, for both functions of the package.

// outcome is what both functions returned.
type outcome struct {
	check    api.Errno
	det      api.Poly
	detError api.Errno
}

func outcomeOf(m matrix) outcome {
	det, detError := Det(m)
	return outcome{Check(m), det, detError}
}

// goodMatrices returns matrices without errors.
func goodMatrices() []matrix {
	var all []matrix
	for _, c := range detCases {
		all = append(all, c.m)
	}
	return all
}

// anyMatrices returns matrices with and without errors.
func anyMatrices() []matrix {
	all := goodMatrices()
	for _, c := range checkCases {
		all = append(all, c.m)
	}
	return append(all, cross(corner(), slices.Repeat(row{wide(20, 20, 1, 1)}, 4)), diagonal(poly(0, 1000), poly(0, 1000), poly(0, 101)))
}

// Z1: no panic, whatever the arguments are.
func TestNoPanic(t *testing.T) {
	all := append(anyMatrices(), make(matrix, 100000), filled(1, 100000, poly(0)), filled(300, 300, poly(0, 1)), filled(1, 1, long(0, 100000, 1)))
	var some row
	for _, low := range []int{math.MinInt, -1001, -21, -20, 0, 20, 21, 1001, math.MaxInt} {
		some = append(some, poly(low))
		for _, x := range []int{math.MinInt, -1001, -1000, 0, 1, 1000, 1001, math.MaxInt} {
			some = append(some, poly(low, x), poly(low, 1, x, -1), long(low, 20, x))
		}
	}
	for _, p := range some {
		for side := 1; side <= MaxSide; side++ {
			all = append(all, filled(side, side, p), diagonal(slices.Repeat(row{p}, side)...))
		}
		for _, q := range some {
			all = append(all, diagonal(p, q), matrix{{p, q}, {q, p}})
		}
	}
	for _, m := range all {
		outcomeOf(m)
	}
}

// spared returns a copy of a matrix with spare capacity behind it, its rows and the coefficients, and all this memory.
func spared(m matrix) (matrix, []row, [][]int) {
	var rows []row
	var coefficients [][]int
	for _, r := range m {
		var l row
		for _, p := range r {
			whole := append(slices.Clone(p.C), 5, -5, 77)
			coefficients = append(coefficients, whole)
			l = append(l, poly(p.Low, whole[:len(p.C)]...))
		}
		rows = append(rows, append(l, poly(3, 1, 2), poly(-4, 5)))
	}
	rows = append(rows, row{poly(5, 6)}, row{poly(7, 8)})
	l := slices.Clone(rows)
	for i, r := range m {
		l[i] = rows[i][:len(r)]
	}
	return l[:len(m)], rows, coefficients
}

// Z2: arguments are not modified, including the memory behind their length.
func TestArgumentsStay(t *testing.T) {
	for _, some := range anyMatrices() {
		m, rows, coefficients := spared(some)
		want := fmt.Sprint(m[:cap(m)], rows, coefficients)
		outcomeOf(m)
		if got := fmt.Sprint(m[:cap(m)], rows, coefficients); got != want {
			t.Errorf("%s became %s", want, got)
		}
	}
}

// fill overwrites a slice and its spare capacity.
func fill(l []int, x int) {
	l = l[:cap(l)]
	for i := range l {
		l[i] = x
	}
}

// Z2: results share no memory with arguments or with other results.
func TestResultsAreNewMemory(t *testing.T) {
	for _, some := range goodMatrices() {
		m, _, all := spared(some)
		all = append(all, outcomeOf(m).det.C, outcomeOf(m).det.C)
		for i, l := range all {
			fill(l, 1000+i)
		}
		for i, l := range all {
			if slices.ContainsFunc(l[:cap(l)], func(x int) bool { return x != 1000+i }) {
				t.Errorf("%v: result %d shares memory", some, i)
			}
		}
	}
}

// Z2: rows and elements of an argument may share memory.
func TestElementsMayShareMemory(t *testing.T) {
	line := []int{1, 2, 3, 4}
	elements := row{poly(0, line[:2]...), poly(1, line[1:]...), poly(-1, line...)}
	shared := matrix{elements[:2], elements[1:]}
	apart := matrix{{poly(0, 1, 2), poly(1, 2, 3, 4)}, {poly(1, 2, 3, 4), poly(-1, 1, 2, 3, 4)}}
	if got, want := fmt.Sprint(outcomeOf(shared)), fmt.Sprint(outcomeOf(apart)); got != want {
		t.Errorf("%s with shared memory, want %s", got, want)
	}
}

// Z2: a result depends only on the arguments, not on calls before or on what became of their results.
func TestNoStateBetweenCalls(t *testing.T) {
	some := matrix{{poly(-1, 1, 2), poly(0, 1), poly(0)}, {poly(2, 3), poly(0), poly(0, 1)}, {poly(0, 1), poly(1, 1), poly(0, 5)}}
	want := fmt.Sprint(outcomeOf(some))
	for _, m := range anyMatrices() {
		fill(outcomeOf(m).det.C, -1)
		if got := fmt.Sprint(outcomeOf(some)); got != want {
			t.Errorf("after calls with %v: %s, want %s", m, got, want)
		}
	}
}

// Z3: with an error, the other result is the zero value.
func TestZeroValuesWithErrors(t *testing.T) {
	for _, m := range anyMatrices() {
		if o := outcomeOf(m); o.detError != api.OK && (o.det.Low != 0 || len(o.det.C) > 0) {
			t.Errorf("Det(%v) = %v with error %d", m, o.det, o.detError)
		}
	}
}

// Z4: an empty slice serves like a nil one, as a matrix, as a row and as coefficients.
func TestEmptyIsNil(t *testing.T) {
	zero := api.Poly{C: []int{}}
	for _, c := range []struct{ empty, null matrix }{
		{matrix{}, nil},
		{make(matrix, 0, 5), nil},
		{filled(2, 2, poly(0, 1))[:0], nil},
		{matrix{{}}, matrix{nil}},
		{matrix{{}, row{poly(0, 1)}[:0]}, make(matrix, 2)},
		{matrix{{zero}}, matrix{{poly(0)}}},
		{matrix{{poly(1, 1), zero}, {zero, poly(0, 2)}}, diagonal(poly(1, 1), poly(0, 2))},
		{matrix{{poly(1, []int{1, 2}[:0]...)}}, matrix{{poly(1)}}},
	} {
		if got, want := fmt.Sprint(outcomeOf(c.empty)), fmt.Sprint(outcomeOf(c.null)); got != want {
			t.Errorf("%s for empty slices %v, want %s", got, c.empty, want)
		}
	}
}

// Determinants are polynomials that laurent.Check accepts.
func TestDeterminantsAreAccepted(t *testing.T) {
	for _, m := range append(samples(), goodMatrices()...) {
		p, _ := Det(m)
		if e := laurent.Check(p); e != api.OK {
			t.Errorf("Det(%v) = %v with error %d of Check", m, p, e)
		}
	}
}
