package intmatrix

import (
	"fmt"
	"math"
	"slices"
	"testing"

	"timbrel/api"
)

// The general rules Z1 to Z4, for every function of the package.

// outcome is what one function returned: a slice or a number, and the error.
type outcome struct {
	name   string
	list   []int
	number int
	e      api.Errno
}

// outcomes calls every function.
func outcomes(m [][]int, modulus int) []outcome {
	det, detError := Det(m)
	smith, smithError := Smith(m)
	rank, rankError := Rank(m)
	solutions, solutionsError := Solutions(m, modulus)
	return []outcome{
		{"Check", nil, 0, Check(m)},
		{"Det", nil, det, detError},
		{"Smith", smith, 0, smithError},
		{"Rank", nil, rank, rankError},
		{"Solutions", nil, solutions, solutionsError},
	}
}

var anyModulus = []int{math.MinInt, -1, 0, 1, 2, 6, 13, 14, math.MaxInt}

// anyMatrices returns matrices with and without errors.
func anyMatrices() [][][]int {
	var all [][][]int
	for _, c := range checkCases {
		all = append(all, c.m)
	}
	for _, c := range detCases {
		all = append(all, c.m)
	}
	for _, c := range smithCases {
		all = append(all, c.m)
	}
	return all
}

// Z1: no panic, whatever the arguments are.
func TestNoPanic(t *testing.T) {
	all := append(anyMatrices(), make([][]int, 100000), filled(50000, 1, 1), filled(1, 100000, 1), filled(300, 300, math.MinInt))
	numbers := []int{math.MinInt, math.MinInt + 1, -101, -100, -1, 0, 1, 100, 101, 1 << 32, math.MaxInt}
	for _, x := range numbers {
		for _, y := range numbers {
			all = append(all, [][]int{{x, y}}, [][]int{{x}, {y}}, [][]int{{x, y}, {y, x}}, [][]int{{x}, {y, y}})
		}
	}
	for _, m := range all {
		for _, modulus := range anyModulus {
			outcomes(m, modulus)
		}
	}
}

// spared returns a copy of a matrix with spare capacity behind it and behind each row, and the whole memory.
func spared(m [][]int) ([][]int, [][]int) {
	var whole [][]int
	for _, row := range m {
		whole = append(whole, append(slices.Clone(row), 5, -5, 77))
	}
	whole = append(whole, []int{1, 2, 3}, []int{4, 5, 6})
	rows := slices.Clone(whole)
	for i, row := range m {
		rows[i] = whole[i][:len(row)]
	}
	return rows[:len(m)], append(whole, rows...)
}

// Z2: arguments are not modified, including the memory behind their length.
func TestArgumentsStay(t *testing.T) {
	for _, matrix := range anyMatrices() {
		m, whole := spared(matrix)
		spare := m[:cap(m)]
		want := fmt.Sprint(whole, spare)
		for _, modulus := range anyModulus {
			outcomes(m, modulus)
		}
		if got := fmt.Sprint(whole, spare); got != want {
			t.Errorf("%s became %s", want, got)
		}
	}
}

// Z2: results share no memory with arguments or with other results.
func TestResultsAreNewMemory(t *testing.T) {
	for _, matrix := range anyMatrices() {
		m, whole := spared(matrix)
		first, _ := Smith(m)
		second, _ := Smith(m)
		all := append(slices.Clone(whole), first, second)
		for i, l := range all {
			fill(l, 1000+i)
		}
		// The rows of the argument share memory with each other.
		for i, l := range all[len(whole):] {
			x := 1000 + len(whole) + i
			if slices.ContainsFunc(l[:cap(l)], func(y int) bool { return y != x }) {
				t.Errorf("%v: result %d shares memory", matrix, i)
			}
		}
		for _, l := range whole {
			if slices.ContainsFunc(l[:cap(l)], func(y int) bool { return y >= 1000+len(whole) }) {
				t.Errorf("%v: a result shares memory with the argument", matrix)
			}
		}
	}
}

// fill overwrites a slice and its spare capacity.
func fill(l []int, x int) {
	l = l[:cap(l)]
	for i := range l {
		l[i] = x
	}
}

// Z2: rows of an argument may share memory.
func TestRowsMayShareMemory(t *testing.T) {
	line := []int{1, 2, 3, 4}
	shared := [][]int{line[:3], line[1:], line[:3]}
	apart := [][]int{{1, 2, 3}, {2, 3, 4}, {1, 2, 3}}
	if got, want := fmt.Sprint(outcomes(shared, 6)), fmt.Sprint(outcomes(apart, 6)); got != want {
		t.Errorf("%s with shared memory, want %s", got, want)
	}
}

// Z2: a result depends only on the arguments, not on calls before or on what became of their results.
func TestNoStateBetweenCalls(t *testing.T) {
	matrix := [][]int{{2, 4, 4}, {-6, 6, 12}, {10, 4, 16}}
	want := fmt.Sprint(outcomes(matrix, 12))
	for _, m := range anyMatrices() {
		for _, o := range outcomes(m, 13) {
			fill(o.list, -1)
		}
		if got := fmt.Sprint(outcomes(matrix, 12)); got != want {
			t.Errorf("after calls with %v: %s, want %s", m, got, want)
		}
	}
}

// Z3: with an error, all other results are zero values.
func TestZeroValuesWithErrors(t *testing.T) {
	for _, m := range anyMatrices() {
		for _, modulus := range anyModulus {
			for _, o := range outcomes(m, modulus) {
				if o.e != api.OK && (len(o.list) > 0 || o.number != 0) {
					t.Errorf("%s of %v and %d: results %v and %d with error %d", o.name, m, modulus, o.list, o.number, o.e)
				}
			}
		}
	}
}

// Z4: an empty slice serves like a nil one, as a matrix and as a row.
func TestEmptyIsNil(t *testing.T) {
	pairs := []struct{ empty, null [][]int }{
		{[][]int{}, nil},
		{make([][]int, 0, 5), nil},
		{filled(3, 3, 1)[:0], nil},
		{[][]int{{}}, [][]int{nil}},
		{[][]int{{}, make([]int, 0, 5), []int{1, 2}[:0]}, make([][]int, 3)},
		{[][]int{{}, nil, {}}, make([][]int, 3)},
		{[][]int{{}, {1}}, [][]int{nil, {1}}},
		{[][]int{{1}, {}}, [][]int{{1}, nil}},
	}
	for _, p := range pairs {
		for _, modulus := range anyModulus {
			if got, want := fmt.Sprint(outcomes(p.empty, modulus)), fmt.Sprint(outcomes(p.null, modulus)); got != want {
				t.Errorf("%s for empty slices %v, want %s", got, p.empty, want)
			}
		}
	}
}
