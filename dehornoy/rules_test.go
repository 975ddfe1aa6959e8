package dehornoy

import (
	"fmt"
	"math"
	"slices"
	"testing"

	"timbrel/api"
)

// The general rules Z1 to Z4, for every function of the package.

// outcome is what all functions returned.
type outcome struct {
	reduced  []int
	reducedE api.Errno
	sign     int
	signE    api.Errno
	order    int
	orderE   api.Errno
}

func outcomeOf(n int, a, b []int) outcome {
	var o outcome
	o.reduced, o.reducedE = Reduce(n, a)
	o.sign, o.signE = Sign(n, a)
	o.order, o.orderE = Compare(n, a, b)
	return o
}

// anyCases returns words with and without errors.
func anyCases() []braidCase {
	all := []braidCase{
		{1, nil},
		{2, nil},
		{6, nil},
		{2, []int{1}},
		{2, []int{-1}},
		{3, []int{1, -1}},
		{3, []int{1, 2, -1, 2}},
		{6, []int{1, -3, 5}},
		{4, repeat(15, 1, -2)},
		{2, repeat(30, 1)},
		{6, repeat(10, 5, 4, -3)},
	}
	for _, c := range errorCases {
		all = append(all, braidCase{c.n, c.w})
	}
	return append(all, hardCases...)
}

// Z1: no panic, whatever the arguments are.
func TestNoPanic(t *testing.T) {
	some := []int{math.MinInt, math.MinInt + 1, -31, -7, -6, -5, -1, 0, 1, 2, 3, 5, 6, 7, 31, 1<<32 + 1, math.MaxInt}
	long := [][]int{nil, make([]int, 100000), repeat(100000, 1), repeat(15, 1, -2)}
	for _, n := range some {
		for _, c := range anyCases() {
			for _, w := range long {
				outcomeOf(n, c.w, w)
				outcomeOf(n, w, c.w)
			}
		}
		for _, x := range some {
			for _, y := range some {
				outcomeOf(n, []int{x, y}, []int{y})
			}
		}
	}
}

// spared returns a copy of a word in front of spare capacity, and the whole memory.
func spared(w []int) ([]int, []int) {
	whole := append(slices.Clone(w), 5, -5, 4, 77)
	return whole[:len(w)], whole
}

// Z2: arguments are not modified, including the memory behind their length.
func TestArgumentsStay(t *testing.T) {
	for _, c := range append(anyCases(), samples(8)...) {
		a, first := spared(c.w)
		b, second := spared(c.w)
		want := slices.Clone(first)
		outcomeOf(c.n, a, b)
		if !slices.Equal(first, want) || !slices.Equal(second, want) {
			t.Errorf("arguments %v became %v and %v", want, first, second)
		}
	}
}

// fill overwrites a slice and its spare capacity.
func fill(l []int, x int) {
	l = l[:cap(l)]
	for i := range l {
		l[i] = x
	}
}

// Z2: results share no memory with arguments or with other results.
func TestResultsAreNewMemory(t *testing.T) {
	for _, c := range append(anyCases(), samples(8)...) {
		w, whole := spared(c.w)
		all := [][]int{whole, outcomeOf(c.n, w, w).reduced, outcomeOf(c.n, w, w).reduced}
		for i, l := range all {
			fill(l, 1000+i)
		}
		for i, l := range all {
			if slices.ContainsFunc(l[:cap(l)], func(x int) bool { return x != 1000+i }) {
				t.Errorf("(%d, %v): slice %d shares memory", c.n, c.w, i)
			}
		}
	}
}

// Z2: a result depends only on the arguments, not on calls before or on what became of their results.
func TestNoStateBetweenCalls(t *testing.T) {
	some := []int{1, -2, 3, 1, -3, -1}
	want := fmt.Sprint(outcomeOf(4, some, some))
	for _, c := range anyCases() {
		fill(outcomeOf(c.n, c.w, nil).reduced, -1)
		if got := fmt.Sprint(outcomeOf(4, some, some)); got != want {
			t.Errorf("after calls with (%d, %v): %s, want %s", c.n, c.w, got, want)
		}
	}
}

// Z3: with an error, the other result is the zero value.
func TestZeroValuesWithErrors(t *testing.T) {
	for _, c := range anyCases() {
		for _, w := range [][]int{nil, c.w, {1}, {7}} {
			o := outcomeOf(c.n, c.w, w)
			if o.reducedE != api.OK && len(o.reduced) > 0 {
				t.Errorf("Reduce(%d, %v) = %v with error %d", c.n, c.w, o.reduced, o.reducedE)
			}
			if o.signE != api.OK && o.sign != 0 {
				t.Errorf("Sign(%d, %v) = %d with error %d", c.n, c.w, o.sign, o.signE)
			}
			if o.orderE != api.OK && o.order != 0 {
				t.Errorf("Compare(%d, %v, %v) = %d with error %d", c.n, c.w, w, o.order, o.orderE)
			}
		}
	}
}

// Z4: an empty slice serves like a nil one.
func TestEmptyIsNil(t *testing.T) {
	empty := make([]int, 0, 5)
	for n := -1; n <= api.MaxStrands+1; n++ {
		for _, pair := range [][2][]int{{empty, empty}, {empty, nil}, {nil, empty}} {
			if got, want := fmt.Sprint(outcomeOf(n, pair[0], pair[1])), fmt.Sprint(outcomeOf(n, nil, nil)); got != want {
				t.Errorf("%s for an empty slice on %d strands, want %s", got, n, want)
			}
		}
	}
}
