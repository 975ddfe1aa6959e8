package permgroup

import (
	"fmt"
	"math"
	"slices"
	"testing"

	"timbrel/api"
)

// The general rules Z1 to Z4, for every function of the package.

// call holds the arguments of all functions.
type call struct {
	group
	p     []int
	point int
}

// results calls every function, and returns all slices of the results, and each result as a text.
func results(c call) ([][]int, []string) {
	check := Check(c.n, c.generators)
	order, orderError := Order(c.n, c.generators)
	is, containsError := Contains(c.n, c.generators, c.p)
	orbits, orbitsError := Orbits(c.n, c.generators)
	stabilizer, stabilizerError := StabilizerOrder(c.n, c.generators, c.point)
	w, factorError := Factor(c.n, c.generators, c.p)
	text := []string{
		fmt.Sprint("Check ", check),
		fmt.Sprint("Order ", order, " ", orderError),
		fmt.Sprint("Contains ", is, " ", containsError),
		fmt.Sprint("Orbits ", orbits, " ", orbitsError),
		fmt.Sprint("StabilizerOrder ", stabilizer, " ", stabilizerError),
		fmt.Sprint("Factor ", w, " ", factorError),
	}
	return append(orbits, w), text
}

var goodCalls = []call{
	{group{0, nil}, nil, 0},
	{group{1, nil}, []int{0}, 0},
	{group{3, [][]int{{1, 2, 0}}}, []int{2, 0, 1}, 1},
	{group{4, [][]int{{0, 3, 2, 1}, {0, 1, 2, 3}}}, []int{0, 3, 2, 1}, 3},
	{group{6, [][]int{{1, 0, 3, 2, 4, 5}, {2, 3, 0, 1, 4, 5}}}, []int{3, 2, 1, 0, 4, 5}, 5},
	{group{9, [][]int{turn9, swap9}}, lastSwap, 8},
	{group{7, neighbours(7)}, []int{2, 0, 1, 6, 5, 3, 4}, 4},
}

// badCalls returns calls with errors, some of which concern only some functions.
func badCalls() []call {
	var calls []call
	for _, c := range checkCases {
		for _, p := range [][]int{nil, {0}, {1, 1}, {0, 2, 1}, swap9, length10} {
			for _, point := range []int{math.MinInt, -1, 0, 2, 9, math.MaxInt} {
				calls = append(calls, call{c.group, p, point})
			}
		}
	}
	return calls
}

// Z1: no panic, whatever the arguments are.
func TestNoPanic(t *testing.T) {
	numbers := []int{math.MinInt, -256, -1, 0, 1, 2, 3, 9, 10, 255, 256, 1 << 32, math.MaxInt}
	for _, c := range badCalls() {
		results(c)
	}
	for _, n := range numbers {
		for _, x := range numbers {
			for _, y := range numbers {
				results(call{group{n, [][]int{{x, y}, {y}}}, []int{y, x}, x})
				results(call{group{n, [][]int{{y, 0, 1}}}, []int{x, 0, 1}, y})
				results(call{group{3, [][]int{{1, 2, 0}}}, []int{x, y, n}, y})
			}
		}
		results(call{group{n, make([][]int, 100000)}, nil, n})
		results(call{group{n, [][]int{make([]int, 100000)}}, make([]int, 100000), n})
	}
}

// spared returns a copy of a call in which all slices have spare capacity, and the whole memory of these slices.
func spared(c call) (call, func() string) {
	copied := call{group{c.n, make([][]int, 0, len(c.generators)+2)}, nil, c.point}
	var wholes [][]int
	spare := func(l []int) []int {
		whole := append(slices.Clone(l), 7, 7, 7)
		wholes = append(wholes, whole)
		return whole[:len(l)]
	}
	for _, g := range c.generators {
		copied.generators = append(copied.generators, spare(g))
	}
	copied.p = spare(c.p)
	outer := copied.generators[:cap(copied.generators)]
	return copied, func() string { return fmt.Sprint(wholes, outer) }
}

// Z2: arguments are not modified, including the memory behind their length.
func TestArgumentsStay(t *testing.T) {
	for _, c := range append(badCalls(), goodCalls...) {
		copied, whole := spared(c)
		before := whole()
		results(copied)
		if after := whole(); after != before {
			t.Errorf("arguments %s became %s", before, after)
		}
	}
}

// fill overwrites a slice and its spare capacity.
func fill(l []int, x int) {
	l = l[:cap(l)]
	for i := range l {
		l[i] = x
	}
}

// Z2: results share no memory with arguments, with other results, or with each other.
func TestResultsAreNewMemory(t *testing.T) {
	for _, c := range goodCalls {
		copied, _ := spared(c)
		first, text := results(copied)
		second, again := results(copied)
		if !slices.Equal(text, again) {
			t.Errorf("two calls differ: %v and %v", text, again)
		}
		all := append(append(first, second...), copied.p)
		all = append(all, copied.generators...)
		for i, l := range all {
			fill(l, 1000+i)
		}
		for i, l := range all {
			if slices.ContainsFunc(l[:cap(l)], func(x int) bool { return x != 1000+i }) {
				t.Errorf("%v: result %d shares memory", c, i)
			}
		}
	}
}

// Z2: the list of orbits is new memory as well.
func TestOrbitsAreNewMemory(t *testing.T) {
	first, _ := Orbits(3, nil)
	second, _ := Orbits(3, nil)
	first = first[:cap(first)]
	for i := range first {
		first[i] = nil
	}
	if got := fmt.Sprint(second); got != "[[0] [1] [2]]" {
		t.Error(got)
	}
}

// Z2: a result depends only on the arguments, not on calls before or on what became of their results.
func TestNoStateBetweenCalls(t *testing.T) {
	var want [][]string
	for _, c := range goodCalls {
		_, text := results(c)
		want = append(want, text)
	}
	for _, other := range append(badCalls(), goodCalls...) {
		l, _ := results(other)
		for _, p := range l {
			fill(p, -1)
		}
	}
	for i, c := range goodCalls {
		if _, got := results(c); !slices.Equal(got, want[i]) {
			t.Errorf("%v: %v, want %v", c, got, want[i])
		}
	}
}

// Z3: with an error, all other results are zero values.
func TestZeroValuesWithErrors(t *testing.T) {
	for _, c := range badCalls() {
		if order, e := Order(c.n, c.generators); e != api.OK && order != 0 {
			t.Errorf("%v: Order %d with error %d", c, order, e)
		}
		if is, e := Contains(c.n, c.generators, c.p); e != api.OK && is {
			t.Errorf("%v: Contains %v with error %d", c, is, e)
		}
		if l, e := Orbits(c.n, c.generators); e != api.OK && len(l) != 0 {
			t.Errorf("%v: Orbits %v with error %d", c, l, e)
		}
		if k, e := StabilizerOrder(c.n, c.generators, c.point); e != api.OK && k != 0 {
			t.Errorf("%v: StabilizerOrder %d with error %d", c, k, e)
		}
		if w, e := Factor(c.n, c.generators, c.p); e != api.OK && len(w) != 0 {
			t.Errorf("%v: Factor %v with error %d", c, w, e)
		}
	}
}

// Z4: an empty slice serves like a nil one.
func TestEmptyIsNil(t *testing.T) {
	for n := range 4 {
		for _, generators := range [][][]int{nil, {nil}, {nil, nil}} {
			_, want := results(call{group{n, generators}, nil, 0})
			empty := make([][]int, 0, 3)
			for range generators {
				empty = append(empty, []int{})
			}
			if _, got := results(call{group{n, empty}, []int{}, 0}); !slices.Equal(got, want) {
				t.Errorf("%v for empty slices, want %v", got, want)
			}
		}
	}
}
