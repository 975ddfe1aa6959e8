package markov

import (
	"fmt"
	"math"
	"slices"
	"testing"

	"timbrel/api"
)

// The general rules Z1 to Z4, for every function of the package.

// arguments are what is passed to the functions: Apply and Undo take the first move, Connects the other word too.
type arguments struct {
	n     int
	w     []int
	m     int
	v     []int
	moves []api.Move
}

// outcome is what all functions returned.
type outcome struct {
	applyN    int
	apply     []int
	applyE    api.Errno
	allN      int
	all       []int
	performed int
	allE      api.Errno
	connects  bool
	connectsE api.Errno
	undo      api.Move
	undoE     api.Errno
}

func (a arguments) outcome() outcome {
	var first api.Move
	if len(a.moves) > 0 {
		first = a.moves[0]
	}
	var o outcome
	o.applyN, o.apply, o.applyE = Apply(a.n, a.w, first)
	o.allN, o.all, o.performed, o.allE = ApplyAll(a.n, a.w, a.moves)
	o.connects, o.connectsE = Connects(a.n, a.w, a.m, a.v, a.moves)
	o.undo, o.undoE = Undo(a.n, a.w, first)
	return o
}

// slices returns all slices of an outcome.
func (o outcome) slices() [][]int {
	return [][]int{o.apply, o.all}
}

// anyArguments returns arguments with and without errors.
func anyArguments() []arguments {
	var s source
	var all []arguments
	for _, c := range samples(6) {
		all = append(all, arguments{c.n, c.w, c.n, c.w, nil}, arguments{c.n, c.w, 3, []int{2, -1}, []api.Move{{Kind: 8}}})
		for kind := api.Insert; kind <= api.Destabilize; kind++ {
			for _, m := range possible(c, kind) {
				n, w, _ := plainApply(c.n, c.w, m)
				all = append(all, arguments{c.n, c.w, n, w, []api.Move{m}})
			}
		}
		moves, words := s.walk(c, 8, api.MaxBraid)
		end := words[len(moves)]
		all = append(all, arguments{c.n, c.w, end.n, end.w, moves}, arguments{c.n, c.w, end.n, end.w, append(moves, api.Move{})})
	}
	for _, c := range commonErrors {
		for kind := 0; kind <= 8; kind++ {
			m := []api.Move{{Kind: kind, Letter: 1}}
			all = append(all, arguments{c.n, c.w, c.n, c.w, m}, arguments{2, []int{1}, c.n, c.w, m}, arguments{c.n, c.w, 2, []int{1}, m})
		}
	}
	return append(all, arguments{2, []int{1}, 2, []int{1}, times(201, turn)})
}

// Z1: no panic, whatever the arguments are.
func TestNoPanic(t *testing.T) {
	some := []int{math.MinInt, math.MinInt + 1, -31, -7, -1, 0, 1, 2, 3, 5, 6, 7, 8, 29, 30, 31, 1<<32 + 1, math.MaxInt - 2, math.MaxInt - 1, math.MaxInt}
	words := [][]int{nil, {1}, {1, -1, 2, 1}, {1, 2, 1, 3}, {1, 4}, make([]int, 1000), repeat(1000, 1), repeat(15, 1, -2)}
	for _, kind := range some {
		for _, index := range some {
			for _, letter := range some {
				for n := range 8 {
					w := words[(n+letter&7)&7]
					arguments{n, w, n, w, times(2, api.Move{Kind: kind, At: index, Letter: letter})}.outcome()
				}
				for _, w := range words {
					arguments{5, w, 5, w, times(2, api.Move{Kind: kind & 7, At: index, Letter: letter})}.outcome()
				}
			}
		}
	}
	for _, n := range some {
		for _, x := range some {
			for kind := 0; kind <= 8; kind++ {
				arguments{n, []int{x, n}, x, []int{n, x}, []api.Move{{Kind: kind, At: x, Letter: n}}}.outcome()
			}
		}
		for _, w := range words {
			arguments{n, w, n, w, make([]api.Move, 100000)}.outcome()
			arguments{n, w, n, w, times(200, insertion(0, 1))}.outcome()
			arguments{n, w, n, w, times(200, grow)}.outcome()
		}
	}
}

// spared returns a copy of a list in front of spare capacity, and the whole memory.
func spared[T any](l []T, more ...T) ([]T, []T) {
	whole := append(slices.Clone(l), more...)
	return whole[:len(l)], whole
}

// sparedArguments returns a copy of the arguments in front of spare capacity, and all the memory.
func sparedArguments(a arguments) (arguments, [2][]int, []api.Move) {
	w, wholeW := spared(a.w, 5, -5, 4, 77)
	v, wholeV := spared(a.v, 3, -3, 66)
	moves, wholeMoves := spared(a.moves, turn, api.Move{Kind: 5, At: 6, Letter: 7})
	return arguments{a.n, w, a.m, v, moves}, [2][]int{wholeW, wholeV}, wholeMoves
}

// Z2: arguments are not modified, including the memory behind their length.
func TestArgumentsStay(t *testing.T) {
	for _, a := range anyArguments() {
		b, whole, moves := sparedArguments(a)
		want := fmt.Sprint(whole, moves)
		b.outcome()
		if got := fmt.Sprint(whole, moves); got != want {
			t.Errorf("arguments %s became %s", want, got)
		}
	}
}

// Z2: both words of Connects may be in the same memory.
func TestArgumentsMayShareMemory(t *testing.T) {
	memory := []int{1, 2, 1, -2, 1, 2}
	moves := []api.Move{at(api.Slide, 0), turn, insertion(1, 2), at(api.Delete, 1)}
	for i := range memory {
		for k := i; k <= len(memory); k++ {
			shared := arguments{3, memory[:k], 3, memory[i:k], moves}
			apart := arguments{3, slices.Clone(memory[:k]), 3, slices.Clone(memory[i:k]), moves}
			if got, want := fmt.Sprint(shared.outcome()), fmt.Sprint(apart.outcome()); got != want {
				t.Errorf("%s with shared memory, want %s", got, want)
			}
		}
	}
}

// fill overwrites a slice and its spare capacity.
func fill(l []int, x int) {
	l = l[:cap(l)]
	for i := range l {
		l[i] = x
	}
}

// Z2: results share no memory with arguments or with other results.
func TestResultsAreNewMemory(t *testing.T) {
	for _, a := range anyArguments() {
		b, whole, _ := sparedArguments(a)
		all := slices.Concat(whole[:], b.outcome().slices(), b.outcome().slices())
		for i, l := range all {
			fill(l, 1000+i)
		}
		for i, l := range all {
			if slices.ContainsFunc(l[:cap(l)], func(x int) bool { return x != 1000+i }) {
				t.Errorf("%v: slice %d of %d shares memory", a, i, len(all))
			}
		}
	}
}

// Z2: a result depends only on the arguments, not on calls before or on what became of their results.
func TestNoStateBetweenCalls(t *testing.T) {
	some := arguments{4, []int{1, -2, 3, -3, -1, 2}, 4, []int{-2, -1, 2, 1}, []api.Move{at(api.Delete, 2), turn}}
	want := fmt.Sprint(some.outcome())
	for _, a := range anyArguments() {
		for _, l := range a.outcome().slices() {
			fill(l, -1)
		}
		if got := fmt.Sprint(some.outcome()); got != want {
			t.Errorf("after calls with %v: %s, want %s", a, got, want)
		}
	}
}

// Z3: with an error, all other results are zero values.
func TestZeroValuesWithErrors(t *testing.T) {
	for _, a := range anyArguments() {
		o := a.outcome()
		if o.applyE != api.OK && (o.applyN != 0 || len(o.apply) != 0) {
			t.Errorf("Apply for %v = %d, %v with error %d", a, o.applyN, o.apply, o.applyE)
		}
		if o.allE != api.OK && (o.allN != 0 || len(o.all) != 0 || o.performed != 0) {
			t.Errorf("ApplyAll for %v = %d, %v, %d with error %d", a, o.allN, o.all, o.performed, o.allE)
		}
		if o.connectsE != api.OK && o.connects {
			t.Errorf("Connects for %v = %v with error %d", a, o.connects, o.connectsE)
		}
		if o.undoE != api.OK && o.undo != (api.Move{}) {
			t.Errorf("Undo for %v = %v with error %d", a, o.undo, o.undoE)
		}
	}
}

// Z4: an empty slice serves like a nil one.
func TestEmptyIsNil(t *testing.T) {
	for _, empty := range [][]int{{}, make([]int, 0, 5), []int{1, 2}[:0]} {
		for n := -1; n <= api.MaxStrands+1; n++ {
			for kind := 0; kind <= 8; kind++ {
				moves := []api.Move{{Kind: kind, Letter: 1}}
				for _, pair := range [][2]arguments{
					{{n, empty, n, empty, moves}, {n, nil, n, nil, moves}},
					{{n, empty, n, []int{1}, moves}, {n, nil, n, []int{1}, moves}},
					{{n, []int{1}, n - 1, empty, moves}, {n, []int{1}, n - 1, nil, moves}},
					{{n, empty, n, empty, moves[:0]}, {n, nil, n, nil, nil}},
				} {
					if got, want := fmt.Sprint(pair[0].outcome()), fmt.Sprint(pair[1].outcome()); got != want {
						t.Errorf("%s for an empty slice on %d strands, want %s", got, n, want)
					}
				}
			}
		}
	}
}
