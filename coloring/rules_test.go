package coloring

import (
	"fmt"
	"math"
	"slices"
	"testing"

	"timbrel/api"
)

// The general rules Z1 to Z4, for every function of the package.

// arguments are what is passed to the functions. Count takes no colors.
type arguments struct {
	n       int
	w, c    []int
	modulus int
}

// outcome is what all functions returned.
type outcome struct {
	colors  []int
	colorsE api.Errno
	count   int
	countE  api.Errno
}

func (a arguments) outcome() outcome {
	var o outcome
	o.colors, o.colorsE = Propagate(a.n, a.w, a.c, a.modulus)
	o.count, o.countE = Count(a.n, a.w, a.modulus)
	return o
}

// anyArguments returns arguments with and without errors.
func anyArguments() []arguments {
	var s source
	var all []arguments
	for _, b := range samples(6) {
		modulus := 1 + s.below(api.MaxModulus)
		c := s.colors(b.n, modulus)
		all = append(all, arguments{b.n, b.w, c, modulus}, arguments{b.n, b.w, c[1:], modulus}, arguments{b.n, b.w, c, 0})
		wrong := slices.Clone(c)
		wrong[len(c)-1] = modulus
		all = append(all, arguments{b.n, b.w, wrong, modulus})
	}
	for _, x := range commonErrors {
		all = append(all, arguments{x.n, x.w, make([]int, min(max(x.n, 0), 10)), x.modulus})
	}
	return append(all, arguments{6, repeat(6, 1, -2, 3, -4, 5), []int{1, 2, 3, 4, 5, 6}, 13})
}

// Z1: no panic, whatever the arguments are.
func TestNoPanic(t *testing.T) {
	some := []int{math.MinInt, math.MinInt + 1, -31, -7, -6, -1, 0, 1, 2, 3, 6, 7, 13, 14, 31, 1<<32 + 1, math.MaxInt}
	for _, n := range some {
		for _, modulus := range some {
			for _, w := range [][]int{nil, make([]int, 1000), repeat(1000, 1), repeat(15, 1, -2)} {
				for _, c := range [][]int{nil, make([]int, 6), make([]int, 1000)} {
					arguments{n, w, c, modulus}.outcome()
				}
			}
			for _, x := range some {
				for _, y := range some {
					arguments{n, []int{x, y}, []int{y, x}, modulus}.outcome()
					arguments{2, []int{1, -1}, []int{x, y}, modulus}.outcome()
				}
			}
		}
	}
}

// spared returns a copy of a list in front of spare capacity, and the whole memory.
func spared(l []int) ([]int, []int) {
	whole := append(slices.Clone(l), 5, -5, 4, 77)
	return whole[:len(l)], whole
}

// Z2: arguments are not modified, including the memory behind their length.
func TestArgumentsStay(t *testing.T) {
	for _, a := range anyArguments() {
		w, wholeWord := spared(a.w)
		c, wholeColors := spared(a.c)
		want := fmt.Sprint(wholeWord, wholeColors)
		arguments{a.n, w, c, a.modulus}.outcome()
		if got := fmt.Sprint(wholeWord, wholeColors); got != want {
			t.Errorf("arguments %s became %s", want, got)
		}
	}
}

// Z2: the word and the colors may be in the same memory.
func TestArgumentsMayShareMemory(t *testing.T) {
	memory := []int{2, 1, 1, 3}
	shared := arguments{3, memory[:3], memory[1:], 5}
	apart := arguments{3, []int{2, 1, 1}, []int{1, 1, 3}, 5}
	if got, want := fmt.Sprint(shared.outcome()), fmt.Sprint(apart.outcome()); got != want {
		t.Errorf("%s with shared memory, want %s", got, want)
	}
}

// fill overwrites a slice and its spare capacity.
func fill(l []int, x int) {
	l = l[:cap(l)]
	for i := range l {
		l[i] = x
	}
}

// Z2: results share no memory with arguments or with other results.
func TestResultsAreNewMemory(t *testing.T) {
	for _, a := range anyArguments() {
		w, wholeWord := spared(a.w)
		c, wholeColors := spared(a.c)
		b := arguments{a.n, w, c, a.modulus}
		all := [][]int{wholeWord, wholeColors, b.outcome().colors, b.outcome().colors}
		for i, l := range all {
			fill(l, 1000+i)
		}
		for i, l := range all {
			if slices.ContainsFunc(l[:cap(l)], func(x int) bool { return x != 1000+i }) {
				t.Errorf("%v: slice %d shares memory", a, i)
			}
		}
	}
}

// Z2: a result depends only on the arguments, not on calls before or on what became of their results.
func TestNoStateBetweenCalls(t *testing.T) {
	some := arguments{4, []int{1, -2, 3, 1, -3, -1, 2}, []int{3, 0, 7, 4}, 9}
	want := fmt.Sprint(some.outcome())
	for _, a := range anyArguments() {
		fill(a.outcome().colors, -1)
		if got := fmt.Sprint(some.outcome()); got != want {
			t.Errorf("after calls with %v: %s, want %s", a, got, want)
		}
	}
}

// Z3: with an error, the other result is the zero value.
func TestZeroValuesWithErrors(t *testing.T) {
	for _, a := range anyArguments() {
		o := a.outcome()
		if o.colorsE != api.OK && len(o.colors) != 0 {
			t.Errorf("Propagate%v = %v with error %d", a, o.colors, o.colorsE)
		}
		if o.countE != api.OK && o.count != 0 {
			t.Errorf("Count%v = %d with error %d", a, o.count, o.countE)
		}
	}
}

// Z4: an empty slice serves like a nil one.
func TestEmptyIsNil(t *testing.T) {
	for _, empty := range [][]int{{}, make([]int, 0, 5), []int{1, 2}[:0]} {
		for n := -1; n <= api.MaxStrands+1; n++ {
			c := make([]int, max(n, 0))
			for _, pair := range [][2]arguments{
				{{n, empty, c, 3}, {n, nil, c, 3}},
				{{n, nil, empty, 3}, {n, nil, nil, 3}},
				{{n, empty, empty, 0}, {n, nil, nil, 0}},
			} {
				if got, want := fmt.Sprint(pair[0].outcome()), fmt.Sprint(pair[1].outcome()); got != want {
					t.Errorf("%s for an empty slice on %d strands, want %s", got, n, want)
				}
			}
		}
	}
}
