package garside

import (
	"fmt"
	"math"
	"slices"
	"testing"

	"timbrel/api"
)

// The general rules Z1 to Z4, for every function of the package.

func text(x any) string {
	return fmt.Sprint(x)
}

// outcome is what the functions with braid words returned.
type outcome struct {
	power   int
	factors [][]int
	e       api.Errno
	equal   bool
	equalE  api.Errno
}

func outcomeOf(n int, v, w []int) outcome {
	var o outcome
	o.power, o.factors, o.e = NormalForm(n, v)
	o.equal, o.equalE = Equal(n, v, w)
	return o
}

// formOutcome is what the functions with factors returned.
type formOutcome struct {
	check api.Errno
	word  []int
	e     api.Errno
}

func formOutcomeOf(n, power int, factors [][]int) formOutcome {
	o := formOutcome{check: Check(n, factors)}
	o.word, o.e = Word(n, power, factors)
	return o
}

var goodCases = []braidCase{
	{1, nil},
	{2, nil},
	{6, nil},
	{2, []int{1}},
	{2, []int{-1}},
	{3, []int{1, -1}},
	{3, []int{1, 2, -1, 2}},
	{6, []int{1, -3, 5}},
	{4, repeat(15, 1, -2)},
	{2, repeat(30, 1)},
	{6, repeat(10, 5, 4, -3)},
	{6, repeat(30, -5)},
}

// anyCases returns words with and without errors.
func anyCases() []braidCase {
	all := slices.Clone(goodCases)
	for _, c := range errorCases {
		all = append(all, braidCase{c.n, c.w})
	}
	return all
}

// formCase are arguments of Word.
type formCase struct {
	n, power int
	factors  [][]int
}

// anyForms returns arguments of Word with and without errors.
func anyForms() []formCase {
	var all []formCase
	for _, c := range checkCases {
		for _, power := range []int{0, 2, -2, 31} {
			all = append(all, formCase{c.n, power, c.factors})
		}
	}
	for _, c := range wordErrors {
		all = append(all, formCase{c.n, c.power, c.factors})
	}
	return all
}

var someInts = []int{math.MinInt, math.MinInt + 1, -31, -30, -7, -6, -5, -1, 0, 1, 2, 3, 5, 6, 7, 30, 31, 1<<32 + 1, math.MaxInt}

// Z1: no panic, whatever the braid words are.
func TestNoPanicForWords(t *testing.T) {
	long := [][]int{nil, make([]int, 100000), repeat(100000, 1), repeat(15, 1, -2)}
	for _, n := range someInts {
		for _, c := range anyCases() {
			for _, w := range long {
				outcomeOf(n, c.w, w)
				outcomeOf(n, w, c.w)
			}
		}
		for _, x := range someInts {
			for _, y := range someInts {
				outcomeOf(n, []int{x, y}, []int{y})
			}
		}
	}
}

// Z1: no panic, whatever the factors are.
func TestNoPanicForFactors(t *testing.T) {
	long := [][][]int{make([][]int, 100000), {make([]int, 100000)}, {repeat(100000, 1), nil}}
	for _, n := range someInts {
		for _, power := range someInts {
			for _, c := range anyForms() {
				formOutcomeOf(n, power, c.factors)
			}
			for _, l := range long {
				formOutcomeOf(n, power, l)
			}
		}
		for _, x := range someInts {
			for _, y := range someInts {
				formOutcomeOf(n, 1, [][]int{{x, y}, {y}})
				formOutcomeOf(n, 1, [][]int{{1, 0, 2}, {x, y, 1}})
			}
		}
	}
}

// spared returns a copy of a word in front of spare capacity, and the whole memory.
func spared(w []int) ([]int, []int) {
	whole := append(slices.Clone(w), 5, -5, 4, 77)
	return whole[:len(w)], whole
}

// sparedList returns a copy of a list in front of spare capacity, with such elements, and the whole memory.
func sparedList(l [][]int) ([][]int, [][]int) {
	var whole, wholes [][]int
	for _, p := range l {
		q, all := spared(p)
		whole, wholes = append(whole, q), append(wholes, all)
	}
	extra := []int{1, 2, 3}
	whole, wholes = append(whole, extra, extra), append(wholes, extra)
	return whole[:len(l)], append(wholes, whole...)
}

// Z2: arguments are not modified, including the memory behind their length.
func TestArgumentsStay(t *testing.T) {
	for _, c := range anyCases() {
		v, first := spared(c.w)
		w, second := spared(c.w)
		want := slices.Clone(first)
		outcomeOf(c.n, v, w)
		if !slices.Equal(first, want) || !slices.Equal(second, want) {
			t.Errorf("arguments %v became %v and %v", want, first, second)
		}
	}
	for _, c := range anyForms() {
		factors, whole := sparedList(c.factors)
		want := text(whole)
		formOutcomeOf(c.n, c.power, factors)
		if got := text(whole) + text(factors); got != want+text(c.factors) {
			t.Errorf("arguments %s became %s", want, got)
		}
	}
}

// fill overwrites a slice and its spare capacity.
func fill(l []int, x int) {
	l = l[:cap(l)]
	for i := range l {
		l[i] = x
	}
}

// checkShares fills slices with different numbers and checks that all stay.
func checkShares(t *testing.T, all [][]int) {
	t.Helper()
	for i, l := range all {
		fill(l, 1000+i)
	}
	for i, l := range all {
		if slices.ContainsFunc(l[:cap(l)], func(x int) bool { return x != 1000+i }) {
			t.Errorf("slice %d of %d shares memory", i, len(all))
		}
	}
}

// Z2: results share no memory with arguments or with other results.
func TestResultsAreNewMemory(t *testing.T) {
	for _, c := range append(goodCases, samples(8)...) {
		w, whole := spared(c.w)
		first, second := outcomeOf(c.n, w, w), outcomeOf(c.n, w, w)
		checkShares(t, slices.Concat([][]int{whole}, first.factors, second.factors))
	}
	for _, c := range anyForms() {
		factors, whole := sparedList(c.factors)
		first, second := formOutcomeOf(c.n, c.power, factors), formOutcomeOf(c.n, c.power, factors)
		checkShares(t, append(whole[:len(factors):len(factors)], first.word, second.word))
	}
}

// Z2: two lists of factors share no memory, including their spare capacity.
func TestListsAreNewMemory(t *testing.T) {
	for _, c := range goodCases {
		first, second := normalForm(t, c.n, c.w), normalForm(t, c.n, c.w)
		clear(first.factors[:cap(first.factors)])
		if !second.equals(normalForm(t, c.n, c.w)) {
			t.Errorf("(%d, %v): the lists share memory", c.n, c.w)
		}
	}
}

// Z2: a result depends only on the arguments, not on calls before or on what became of their results.
func TestNoStateBetweenCalls(t *testing.T) {
	some := []int{1, -2, 3, 1, -3}
	result := func() string {
		return text(outcomeOf(4, some, some)) + text(formOutcomeOf(3, -1, [][]int{{2, 0, 1}}))
	}
	want := result()
	for _, c := range anyCases() {
		for _, l := range outcomeOf(c.n, c.w, nil).factors {
			fill(l, -1)
		}
		if got := result(); got != want {
			t.Errorf("after calls with (%d, %v): %s, want %s", c.n, c.w, got, want)
		}
	}
	for _, c := range anyForms() {
		fill(formOutcomeOf(c.n, c.power, c.factors).word, -1)
		if got := result(); got != want {
			t.Errorf("after calls with %v: %s, want %s", c, got, want)
		}
	}
}

// Z3: with an error, all other results are zero values.
func TestZeroValuesWithErrors(t *testing.T) {
	for _, c := range anyCases() {
		for _, w := range [][]int{nil, c.w, {1}, {7}} {
			o := outcomeOf(c.n, c.w, w)
			if o.e != api.OK && (o.power != 0 || len(o.factors) > 0) {
				t.Errorf("NormalForm(%d, %v) = %d, %v with error %d", c.n, c.w, o.power, o.factors, o.e)
			}
			if o.equalE != api.OK && o.equal {
				t.Errorf("Equal(%d, %v, %v) is true with error %d", c.n, c.w, w, o.equalE)
			}
		}
	}
	for _, c := range anyForms() {
		if o := formOutcomeOf(c.n, c.power, c.factors); o.e != api.OK && len(o.word) > 0 {
			t.Errorf("Word(%d, %d, %v) = %v with error %d", c.n, c.power, c.factors, o.word, o.e)
		}
	}
}

// Z4: an empty slice serves like a nil one.
func TestEmptyIsNil(t *testing.T) {
	empty, none := make([]int, 0, 5), make([][]int, 0, 5)
	for n := -1; n <= api.MaxStrands+1; n++ {
		for _, pair := range [][2][]int{{empty, empty}, {empty, nil}, {nil, empty}} {
			if got, want := text(outcomeOf(n, pair[0], pair[1])), text(outcomeOf(n, nil, nil)); got != want {
				t.Errorf("%s for an empty slice on %d strands, want %s", got, n, want)
			}
		}
		for _, power := range []int{-1, 0, 1, 31} {
			if got, want := text(formOutcomeOf(n, power, none)), text(formOutcomeOf(n, power, nil)); got != want {
				t.Errorf("%s without factors on %d strands, want %s", got, n, want)
			}
			if got, want := text(formOutcomeOf(n, power, [][]int{empty})), text(formOutcomeOf(n, power, [][]int{nil})); got != want {
				t.Errorf("%s for an empty factor on %d strands, want %s", got, n, want)
			}
		}
	}
}
