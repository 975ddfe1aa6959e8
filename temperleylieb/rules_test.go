package temperleylieb

import (
	"fmt"
	"math"
	"slices"
	"testing"

	"timbrel/api"
)

// The general rules Z1 to Z4, for every function of the package.

// outcome is what all functions returned.
type outcome struct {
	check      api.Errno
	identity   []int
	identityE  api.Errno
	generator  []int
	generatorE api.Errno
	product    []int
	loops      int
	productE   api.Errno
	closure    int
	closureE   api.Errno
	elements   [][]int
	elementsE  api.Errno
}

func outcomeOf(n, i int, a, b []int) outcome {
	o := outcome{check: Check(n, a)}
	o.identity, o.identityE = Identity(n)
	o.generator, o.generatorE = Generator(n, i)
	o.product, o.loops, o.productE = Product(n, a, b)
	o.closure, o.closureE = Closure(n, a)
	o.elements, o.elementsE = Elements(n)
	return o
}

// slices returns all slices of numbers in an outcome.
func (o outcome) slices() [][]int {
	return append([][]int{o.identity, o.generator, o.product}, o.elements...)
}

// Z1: no panic, whatever the arguments are.
func TestNoPanic(t *testing.T) {
	some := []int{math.MinInt, math.MinInt + 1, -7, -2, -1, 0, 1, 2, 3, 4, 5, 6, 7, 12, 1<<32 + 1, math.MaxInt}
	call := func(n, i int, a, b []int) {
		Check(n, a)
		Generator(n, i)
		Product(n, a, b)
		Closure(n, a)
	}
	long := [][]int{nil, make([]int, 100000), slices.Repeat([]int{1, 0}, 50000), {1, 0, 3, 2}}
	for _, n := range some {
		Identity(n)
		Elements(n)
		for _, c := range checkCases {
			for _, d := range long {
				call(n, n-1, c.d, d)
				call(n, n, d, c.d)
			}
		}
		for _, x := range some {
			for _, y := range some {
				call(n, x, []int{x, y}, []int{y, x})
				call(n, y, []int{1, 0, x, y}, []int{x, 3, y, 1})
			}
		}
	}
}

// spared returns a copy of a list in front of spare capacity, and the whole memory.
func spared(d []int) ([]int, []int) {
	whole := append(slices.Clone(d), 5, -5, 0, 77)
	return whole[:len(d)], whole
}

// Z2: arguments are not modified, including the memory behind their length.
func TestArgumentsStay(t *testing.T) {
	var all []matchingPair
	for _, c := range checkCases {
		all = append(all, matchingPair{c.n, c.d, c.d})
	}
	for n := 1; n <= api.MaxStrands; n++ {
		for _, d := range planar(n) {
			all = append(all, matchingPair{n, d, identity(t, n)})
		}
	}
	for _, c := range all {
		a, first := spared(c.a)
		b, second := spared(c.b)
		wantA, wantB := slices.Clone(first), slices.Clone(second)
		Check(c.n, a)
		Product(c.n, a, b)
		Product(c.n, b, a)
		Closure(c.n, a)
		if !slices.Equal(first, wantA) || !slices.Equal(second, wantB) {
			t.Errorf("arguments %v and %v became %v and %v", wantA, wantB, first, second)
		}
	}
}

// fill overwrites a slice and its spare capacity.
func fill(l []int, x int) {
	l = l[:cap(l)]
	for i := range l {
		l[i] = x
	}
}

// Z2: results share no memory with arguments or with other results.
func TestResultsAreNewMemory(t *testing.T) {
	for n := 1; n <= api.MaxStrands; n++ {
		for _, d := range elements(t, n) {
			a, whole := spared(d)
			b, other := spared(identity(t, n))
			all := slices.Concat([][]int{whole, other}, outcomeOf(n, 1, a, b).slices(), outcomeOf(n, 1, b, a).slices())
			for i, l := range all {
				fill(l, 1000+i)
			}
			for i, l := range all {
				if slices.ContainsFunc(l[:cap(l)], func(x int) bool { return x != 1000+i }) {
					t.Errorf("on %d strands: slice %d of %d shares memory", n, i, len(all))
				}
			}
		}
	}
}

// Z2: two lists of elements share no memory, including their spare capacity.
func TestListsAreNewMemory(t *testing.T) {
	for n := 1; n <= api.MaxStrands; n++ {
		first, second := elements(t, n), elements(t, n)
		clear(first[:cap(first)])
		if want := elements(t, n); !slices.EqualFunc(second, want, slices.Equal[[]int]) {
			t.Errorf("on %d strands: the lists share memory", n)
		}
	}
}

// Z2: a result depends only on the arguments, not on calls before or on what became of their results.
func TestNoStateBetweenCalls(t *testing.T) {
	a, b := []int{3, 2, 1, 0, 5, 4}, []int{5, 2, 1, 4, 3, 0}
	want := fmt.Sprint(outcomeOf(3, 2, a, b))
	for _, c := range checkCases {
		for _, l := range outcomeOf(c.n, 1, c.d, c.d).slices() {
			fill(l, -1)
		}
		for _, l := range outcomeOf(3, 2, a, b).slices() {
			fill(l, -1)
		}
		if got := fmt.Sprint(outcomeOf(3, 2, a, b)); got != want {
			t.Errorf("after calls with (%d, %v): %s, want %s", c.n, c.d, got, want)
		}
	}
}

// Z3: with an error, all other results are zero values.
func TestZeroValuesWithErrors(t *testing.T) {
	for _, c := range checkCases {
		for _, d := range [][]int{nil, c.d, {1, 0}, {1, 0, 3, 2}, {3, 2, 1, 0}} {
			for _, o := range []outcome{outcomeOf(c.n, 1, c.d, d), outcomeOf(c.n, 0, d, c.d)} {
				if o.identityE != api.OK && len(o.identity) > 0 {
					t.Errorf("Identity(%d) = %v with error %d", c.n, o.identity, o.identityE)
				}
				if o.generatorE != api.OK && len(o.generator) > 0 {
					t.Errorf("Generator(%d) = %v with error %d", c.n, o.generator, o.generatorE)
				}
				if o.productE != api.OK && (len(o.product) > 0 || o.loops != 0) {
					t.Errorf("Product(%d) of %v and %v = %v, %d with error %d", c.n, c.d, d, o.product, o.loops, o.productE)
				}
				if o.closureE != api.OK && o.closure != 0 {
					t.Errorf("Closure(%d) of %v or %v = %d with error %d", c.n, c.d, d, o.closure, o.closureE)
				}
				if o.elementsE != api.OK && len(o.elements) > 0 {
					t.Errorf("Elements(%d) = %v with error %d", c.n, o.elements, o.elementsE)
				}
			}
		}
	}
}

// Z4: an empty slice serves like a nil one.
func TestEmptyIsNil(t *testing.T) {
	empty := make([]int, 0, 5)
	for n := -1; n <= api.MaxStrands+1; n++ {
		want := fmt.Sprint(outcomeOf(n, 1, nil, nil))
		for _, pair := range [][2][]int{{empty, empty}, {empty, nil}, {nil, empty}} {
			if got := fmt.Sprint(outcomeOf(n, 1, pair[0], pair[1])); got != want {
				t.Errorf("%s for an empty slice on %d strands, want %s", got, n, want)
			}
		}
	}
}
