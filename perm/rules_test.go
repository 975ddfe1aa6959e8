package perm

import (
	"fmt"
	"math"
	"slices"
	"testing"

	"timbrel/api"
)

// The general rules Z1 to Z4, for every function of the package.

// results calls every function for two lists and a number, and returns all slices of the results, and everything as a text.
func results(a, b []int, k int) ([][]int, string) {
	var l [][]int
	var text []string
	keep := func(name string, p []int, e api.Errno) {
		l = append(l, p)
		text = append(text, fmt.Sprint(name, p, e))
	}
	keepNumber := func(name string, x int, e api.Errno) {
		text = append(text, fmt.Sprint(name, x, " ", e))
	}
	text = append(text, fmt.Sprint("Check", Check(a)))
	p, e := Compose(a, b)
	keep("Compose", p, e)
	p, e = Inverse(a)
	keep("Inverse", p, e)
	p, e = Power(a, k)
	keep("Power", p, e)
	x, e := Order(a)
	keepNumber("Order", x, e)
	x, e = Sign(a)
	keepNumber("Sign", x, e)
	cycles, e := Cycles(a)
	for _, c := range cycles {
		keep("Cycles", c, e)
	}
	text = append(text, fmt.Sprint("Cycles", e))
	x, e = Rank(a)
	keepNumber("Rank", x, e)
	p, e = Unrank(len(a), k)
	keep("Unrank", p, e)
	return l, fmt.Sprint(text)
}

var numbers = []int{math.MinInt, math.MinInt + 1, -3, -1, 0, 1, 2, 3, 1 << 32, math.MaxInt - 1, math.MaxInt}

// lists returns all lists of up to n of the numbers.
func lists(n int) [][]int {
	all := [][]int{nil}
	for begin := 0; n > 0; n-- {
		end := len(all)
		for _, l := range all[begin:end] {
			for _, x := range numbers {
				all = append(all, append(slices.Clone(l), x))
			}
		}
		begin = end
	}
	return all
}

// Z1: no panic, whatever the arguments are.
func TestNoPanic(t *testing.T) {
	long := lists(3)
	short := append(lists(1), tooLong, longestBack, make([]int, 100000), []int{2, 0, 1}, []int{1, 1})
	for _, a := range append(long, short...) {
		for _, b := range short {
			for _, k := range numbers {
				results(a, b, k)
			}
		}
	}
	for _, n := range numbers {
		for _, rank := range numbers {
			Unrank(n, rank)
		}
	}
}

// withSpare returns a copy of l in front of spare capacity, and the whole memory.
func withSpare(l []int) ([]int, []int) {
	whole := append(slices.Clone(l), 77, 77, 77, 77)
	return whole[:len(l):len(whole)], whole
}

// Z2: arguments are not modified, including the memory behind their length.
func TestArgumentsStay(t *testing.T) {
	for _, list := range [][]int{nil, {0}, {2, 0, 1}, {1, 1}, {3, 2, 1, 0, 4}, longestBack, tooLong} {
		a, wholeA := withSpare(list)
		b, wholeB := withSpare(list)
		wantA, wantB := slices.Clone(wholeA), slices.Clone(wholeB)
		results(a, b, 2)
		if !slices.Equal(wholeA, wantA) || !slices.Equal(wholeB, wantB) {
			t.Errorf("arguments %v became %v and %v", wantA, wholeA, wholeB)
		}
	}
}

// fill overwrites a slice and its spare capacity.
func fill(l []int, x int) {
	l = l[:cap(l)]
	for i := range l {
		l[i] = x
	}
}

// Z2: results share no memory with arguments, with other results, or with each other.
func TestResultsAreNewMemory(t *testing.T) {
	for _, list := range [][]int{{0}, {0, 1, 2}, {2, 0, 1}, {1, 0, 3, 2, 4}, {1, 0, 3, 4, 2, 6, 5}, longest, longestBack} {
		for k := range 3 {
			a, b := slices.Clone(list), slices.Clone(list)
			first, text := results(a, b, k)
			second, again := results(a, b, k)
			if text != again {
				t.Errorf("two calls differ: %s and %s", text, again)
			}
			all := append(append(first, second...), a, b)
			for i, l := range all {
				fill(l, 1000+i)
			}
			for i, l := range all {
				if slices.ContainsFunc(l[:cap(l)], func(x int) bool { return x != 1000+i }) {
					t.Errorf("arguments %v, %d: result %d shares memory", list, k, i)
				}
			}
		}
	}
}

// Z2: a result depends only on the arguments, not on calls before or on what became of their results.
func TestNoStateBetweenCalls(t *testing.T) {
	a, b := []int{2, 0, 1}, []int{1, 0, 2}
	_, want := results(a, b, 2)
	for _, other := range [][]int{nil, longestBack, {1, 1}, tooLong, {0, 2, 1}} {
		l, _ := results(other, a, -5)
		for _, p := range l {
			fill(p, -1)
		}
		if _, got := results(a, b, 2); got != want {
			t.Errorf("after calls with %v: %s, want %s", other, got, want)
		}
	}
}

// Z3: with an error, all other results are zero values.
func TestZeroValuesWithErrors(t *testing.T) {
	for _, a := range append(lists(3), tooLong) {
		e := Check(a)
		if e == api.OK {
			continue
		}
		l, text := results(a, a, -1)
		for _, p := range l {
			if len(p) != 0 {
				t.Errorf("a result %v for %v", p, a)
			}
		}
		want := fmt.Sprintf("[Check%d Compose[] %d Inverse[] %d Power[] %d Order0 %d Sign0 %d Cycles%d Rank0 %d", e, e, e, e, e, e, e, e)
		if text[:len(want)] != want {
			t.Errorf("%s for %v, want %s", text, a, want)
		}
	}
}

// Z4: an empty slice serves like a nil one.
func TestEmptyIsNil(t *testing.T) {
	for _, k := range numbers {
		_, want := results(nil, nil, k)
		for _, empty := range [][]int{{}, longest[:0], make([]int, 0, 5)} {
			if _, got := results(empty, empty, k); got != want {
				t.Errorf("%s for an empty slice, want %s", got, want)
			}
			if _, got := results(nil, empty, k); got != want {
				t.Errorf("%s for a nil and an empty slice, want %s", got, want)
			}
		}
	}
}
