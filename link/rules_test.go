package link

import (
	"fmt"
	"math"
	"slices"
	"testing"

	"timbrel/api"
)

// The general rules Z1 to Z4, for every function of the package.

// outcome is what all functions returned.
type outcome struct {
	components  [][]int
	componentsE api.Errno
	linking     [][]int
	linkingE    api.Errno
	knot        bool
	knotE       api.Errno
}

func (c braidCase) outcome() outcome {
	var o outcome
	o.components, o.componentsE = Components(c.n, c.w)
	o.linking, o.linkingE = LinkingNumbers(c.n, c.w)
	o.knot, o.knotE = IsKnot(c.n, c.w)
	return o
}

// slices returns all slices of numbers in an outcome.
func (o outcome) slices() [][]int {
	return slices.Concat(o.components, o.linking)
}

// anyArguments returns arguments with and without errors.
func anyArguments() []braidCase {
	all := samples(6)
	for _, x := range commonErrors {
		all = append(all, braidCase{x.n, x.w})
	}
	return append(all, braidCase{6, repeat(6, 1, -2, 3, -4, 5)})
}

// Z1: no panic, whatever the arguments are.
func TestNoPanic(t *testing.T) {
	some := []int{math.MinInt, math.MinInt + 1, -31, -7, -6, -1, 0, 1, 2, 3, 5, 6, 7, 31, 1<<32 + 1, math.MaxInt}
	for _, n := range some {
		for _, w := range [][]int{nil, make([]int, 100000), repeat(100000, 1), repeat(15, 1, -2)} {
			braidCase{n, w}.outcome()
		}
		for _, x := range some {
			for _, y := range some {
				braidCase{n, []int{x, y}}.outcome()
			}
		}
	}
}

// spared returns a copy of a list in front of spare capacity, and the whole memory.
func spared(l []int) ([]int, []int) {
	whole := append(slices.Clone(l), 5, -5, 4, 77)
	return whole[:len(l)], whole
}

// Z2: arguments are not modified, including the memory behind their length.
func TestArgumentsStay(t *testing.T) {
	for _, a := range anyArguments() {
		w, whole := spared(a.w)
		want := slices.Clone(whole)
		braidCase{a.n, w}.outcome()
		if !slices.Equal(whole, want) {
			t.Errorf("the argument %v became %v", want, whole)
		}
	}
}

// fill overwrites a slice and its spare capacity.
func fill(l []int, x int) {
	l = l[:cap(l)]
	for i := range l {
		l[i] = x
	}
}

// Z2: results share no memory with arguments or with other results.
func TestResultsAreNewMemory(t *testing.T) {
	for _, a := range anyArguments() {
		w, whole := spared(a.w)
		b := braidCase{a.n, w}
		all := slices.Concat([][]int{whole}, b.outcome().slices(), b.outcome().slices())
		for i, l := range all {
			fill(l, 1000+i)
		}
		for i, l := range all {
			if slices.ContainsFunc(l[:cap(l)], func(x int) bool { return x != 1000+i }) {
				t.Errorf("%v: slice %d of %d shares memory", a, i, len(all))
			}
		}
	}
}

// Z2: the lists of two results share no memory, including their spare capacity.
func TestListsAreNewMemory(t *testing.T) {
	for _, a := range anyArguments() {
		want := fmt.Sprint(a.outcome())
		first, second := a.outcome(), a.outcome()
		for _, l := range [][][]int{first.components, first.linking} {
			clear(l[:cap(l)])
		}
		if got := fmt.Sprint(second); got != want {
			t.Errorf("%v: the lists share memory: %s, want %s", a, got, want)
		}
	}
}

// Z2: a result depends only on the arguments, not on calls before or on what became of their results.
func TestNoStateBetweenCalls(t *testing.T) {
	some := braidCase{4, []int{1, -2, 3, 1, -3, -1, 2}}
	want := fmt.Sprint(some.outcome())
	for _, a := range anyArguments() {
		for _, l := range a.outcome().slices() {
			fill(l, -1)
		}
		if got := fmt.Sprint(some.outcome()); got != want {
			t.Errorf("after calls with %v: %s, want %s", a, got, want)
		}
	}
}

// Z3: with an error, the other result is the zero value.
func TestZeroValuesWithErrors(t *testing.T) {
	for _, a := range anyArguments() {
		o := a.outcome()
		if o.componentsE != api.OK && len(o.components) != 0 {
			t.Errorf("Components%v = %v with error %d", a, o.components, o.componentsE)
		}
		if o.linkingE != api.OK && len(o.linking) != 0 {
			t.Errorf("LinkingNumbers%v = %v with error %d", a, o.linking, o.linkingE)
		}
		if o.knotE != api.OK && o.knot {
			t.Errorf("IsKnot%v = %v with error %d", a, o.knot, o.knotE)
		}
	}
}

// Z4: an empty slice serves like a nil one.
func TestEmptyIsNil(t *testing.T) {
	for _, empty := range [][]int{{}, make([]int, 0, 5), []int{1, 2}[:0]} {
		for n := -1; n <= api.MaxStrands+1; n++ {
			got, want := fmt.Sprint(braidCase{n, empty}.outcome()), fmt.Sprint(braidCase{n, nil}.outcome())
			if got != want {
				t.Errorf("%s for an empty slice on %d strands, want %s", got, n, want)
			}
		}
	}
}
