package permgroup

import (
	"fmt"
	"math"
	"slices"
	"testing"

	"timbrel/api"
	"timbrel/perm"
)

// group is a degree with generators.
type group struct {
	n          int
	generators [][]int
}

var (
	stay9    = []int{0, 1, 2, 3, 4, 5, 6, 7, 8}
	turn9    = []int{1, 2, 3, 4, 5, 6, 7, 8, 0}
	turn7of9 = []int{1, 2, 3, 4, 5, 6, 0, 7, 8}
	swap9    = []int{1, 0, 2, 3, 4, 5, 6, 7, 8}
	lastSwap = []int{0, 1, 2, 3, 4, 5, 6, 8, 7}
	length10 = []int{0, 1, 2, 3, 4, 5, 6, 7, 8, 9}
)

// neighbours returns the n - 1 exchanges of neighbours of degree n.
func neighbours(n int) [][]int {
	var l [][]int
	for i := range n - 1 {
		p := slices.Clone(stay9[:n])
		p[i], p[i+1] = i+1, i
		l = append(l, p)
	}
	return l
}

// permutations returns all permutations of degree n, in lexicographic order.
func permutations(n int) [][]int {
	var all [][]int
	for rank := 0; ; rank++ {
		p, e := perm.Unrank(n, rank)
		if e != api.OK {
			return all
		}
		all = append(all, p)
	}
}

// members returns all elements of a group by their ranks, listed one by one.
func members(g group) map[int][]int {
	all := map[int][]int{}
	queue := [][]int{stay9[:g.n]}
	for len(queue) > 0 {
		p := queue[0]
		queue = queue[1:]
		rank, _ := perm.Rank(p)
		if _, ok := all[rank]; ok {
			continue
		}
		all[rank] = p
		for _, x := range g.generators {
			next, _ := perm.Compose(p, x)
			queue = append(queue, next)
		}
	}
	return all
}

// smallGroups returns groups of the degrees 0 to 4 with all choices of up to 2 generators, groups of degree 3 with all choices of 3, and some of degree 5.
func smallGroups() []group {
	groups := []group{{5, neighbours(5)}}
	for n := range 5 {
		groups = append(groups, group{n, nil})
		for _, a := range permutations(n) {
			groups = append(groups, group{n, [][]int{a}})
			for _, b := range permutations(n) {
				groups = append(groups, group{n, [][]int{a, b}})
				if n == 3 {
					for _, c := range permutations(n) {
						groups = append(groups, group{n, [][]int{a, b, c}})
					}
				}
			}
		}
	}
	l := permutations(5)
	for i := range 100 {
		groups = append(groups, group{5, [][]int{l[i], l[i*i%120]}})
	}
	return groups
}

// checkCases are degrees and generators with the result of Check.
var checkCases = []struct {
	group
	want api.Errno
}{
	{group{0, nil}, api.OK},
	{group{0, [][]int{}}, api.OK},
	{group{0, [][]int{nil, {}}}, api.OK},
	{group{1, [][]int{{0}}}, api.OK},
	{group{3, nil}, api.OK},
	{group{3, [][]int{{1, 0, 2}, {0, 2, 1}}}, api.OK},
	{group{3, [][]int{{1, 0, 2}, {1, 0, 2}}}, api.OK},
	{group{7, neighbours(7)}, api.OK}, // as many generators as there may be
	{group{9, nil}, api.OK},
	{group{9, [][]int{turn9, swap9}}, api.OK},

	{group{-1, nil}, api.ErrArgument},
	{group{10, nil}, api.ErrArgument},
	{group{10, [][]int{length10}}, api.ErrArgument},
	{group{math.MinInt, nil}, api.ErrArgument},
	{group{math.MaxInt, nil}, api.ErrArgument},

	{group{0, make([][]int, 7)}, api.ErrTooLarge},
	{group{8, neighbours(8)}, api.ErrTooLarge},
	{group{3, make([][]int, 1000)}, api.ErrTooLarge},

	{group{3, [][]int{{0, 1, 3}}}, api.ErrArgument},
	{group{3, [][]int{{0, -1, 2}}}, api.ErrArgument},
	{group{3, [][]int{{0, 1, 1}}}, api.ErrExists},
	{group{9, [][]int{length10}}, api.ErrTooLarge},
	{group{3, [][]int{{0, 1}}}, api.ErrMalformed},
	{group{3, [][]int{{0, 1, 2, 3}}}, api.ErrMalformed},
	{group{3, [][]int{nil}}, api.ErrMalformed},
	{group{0, [][]int{{0}}}, api.ErrMalformed},
	{group{9, [][]int{turn9, swap9[:8]}}, api.ErrMalformed},

	// The degree comes first, then the number of generators.
	{group{-1, make([][]int, 7)}, api.ErrArgument},
	{group{10, [][]int{{1, 1}}}, api.ErrArgument},
	{group{3, [][]int{{1, 1, 1}, nil, nil, nil, nil, nil, nil}}, api.ErrTooLarge},
	// The error of a generator as a permutation comes before its degree.
	{group{3, [][]int{{0, 0}}}, api.ErrExists},
	{group{3, [][]int{{0, 2}}}, api.ErrArgument},
	{group{3, [][]int{length10}}, api.ErrTooLarge},
	// Both checks of a generator come before those of the next one.
	{group{3, [][]int{{0, 1}, {0, 0, 0}}}, api.ErrMalformed},
	{group{3, [][]int{{0, 0, 0}, {0, 1}}}, api.ErrExists},
	{group{3, [][]int{{0, 1, 2}, {3, 0, 0}, {0, 0, 0}}}, api.ErrArgument},
	{group{3, [][]int{{0, 1, 2}, {0, 0, 3}, {0, 1}}}, api.ErrExists},
}

// P2.1

func TestCheck(t *testing.T) {
	for _, c := range checkCases {
		if e := Check(c.n, c.generators); e != c.want {
			t.Errorf("Check(%d, %v) = %d, want %d", c.n, c.generators, e, c.want)
		}
	}
	for _, g := range smallGroups() {
		if e := Check(g.n, g.generators); e != api.OK {
			t.Errorf("Check(%d, %v) = %d", g.n, g.generators, e)
		}
	}
}

// TestErrorOfCheckComesFirst: all other functions return the error of Check, whatever their further arguments are.
func TestErrorOfCheckComesFirst(t *testing.T) {
	for _, c := range checkCases {
		if c.want == api.OK {
			continue
		}
		for _, p := range [][]int{nil, {0}, {1, 1}, {5}, length10} {
			_, order := Order(c.n, c.generators)
			_, contains := Contains(c.n, c.generators, p)
			_, orbits := Orbits(c.n, c.generators)
			_, stabilizer := StabilizerOrder(c.n, c.generators, len(p)-2)
			_, factor := Factor(c.n, c.generators, p)
			got := []api.Errno{order, contains, orbits, stabilizer, factor}
			if slices.ContainsFunc(got, func(e api.Errno) bool { return e != c.want }) {
				t.Errorf("%d, %v, %v: errors %v, want %d", c.n, c.generators, p, got, c.want)
			}
		}
	}
}

// P2.2

var orderCases = []struct {
	group
	want int
}{
	{group{0, nil}, 1},
	{group{0, [][]int{nil, {}}}, 1},
	{group{1, [][]int{{0}}}, 1},
	{group{9, nil}, 1},
	{group{9, [][]int{stay9}}, 1},
	{group{2, [][]int{{1, 0}}}, 2},
	{group{3, [][]int{{1, 2, 0}}}, 3},
	{group{3, [][]int{{1, 0, 2}, {0, 2, 1}}}, 6},
	{group{4, [][]int{{1, 2, 3, 0}, {0, 3, 2, 1}}}, 8},
	{group{4, [][]int{{1, 2, 0, 3}, {0, 2, 3, 1}}}, 12},
	{group{4, [][]int{{1, 0, 3, 2}, {2, 3, 0, 1}}}, 4},
	{group{5, [][]int{{1, 2, 3, 4, 0}, {0, 2, 4, 1, 3}}}, 20},
	{group{7, [][]int{{1, 2, 3, 4, 5, 6, 0}, {0, 2, 1, 6, 4, 5, 3}}}, 168},
	{group{8, [][]int{{1, 2, 3, 4, 5, 6, 0, 7}, {7, 6, 3, 2, 5, 4, 1, 0}}}, 168},
	{group{7, neighbours(7)}, 5040},
	{group{9, [][]int{turn7of9, swap9, lastSwap}}, 10080},
	{group{9, [][]int{{1, 2, 3, 0, 5, 6, 7, 8, 4}}}, 20},
	{group{9, [][]int{turn9, {1, 2, 0, 3, 4, 5, 6, 7, 8}}}, 181440},
	{group{9, [][]int{turn9, swap9}}, 362880},
	{group{9, [][]int{swap9, turn9}}, 362880},
}

func TestOrder(t *testing.T) {
	for _, c := range orderCases {
		if k, e := Order(c.n, c.generators); e != api.OK || k != c.want {
			t.Errorf("Order(%d, %v) = %d, %d, want %d", c.n, c.generators, k, e, c.want)
		}
	}
}

func TestOrderAndContainsOfSmallGroups(t *testing.T) {
	for _, g := range smallGroups() {
		all := members(g)
		if k, e := Order(g.n, g.generators); e != api.OK || k != len(all) {
			t.Errorf("Order(%d, %v) = %d, %d, want %d", g.n, g.generators, k, e, len(all))
		}
		for rank, p := range permutations(g.n) {
			_, want := all[rank]
			if is, e := Contains(g.n, g.generators, p); e != api.OK || is != want {
				t.Errorf("Contains(%d, %v, %v) = %v, %d", g.n, g.generators, p, is, e)
			}
		}
	}
}

// TestContainsOfLargeGroups lists the elements of groups of higher degrees.
func TestContainsOfLargeGroups(t *testing.T) {
	for _, c := range orderCases {
		if c.n < 7 || c.want > 181440 {
			continue
		}
		all := members(c.group)
		if len(all) != c.want {
			t.Fatalf("%d, %v has %d elements, want %d", c.n, c.generators, len(all), c.want)
		}
		for rank := 0; ; rank += 997 {
			p, e := perm.Unrank(c.n, rank)
			if e != api.OK {
				break
			}
			_, want := all[rank]
			if is, e := Contains(c.n, c.generators, p); e != api.OK || is != want {
				t.Errorf("Contains(%d, %v, %v) = %v, %d", c.n, c.generators, p, is, e)
			}
		}
	}
}

func TestContains(t *testing.T) {
	for _, c := range []struct {
		group
		p    []int
		want bool
	}{
		{group{0, nil}, nil, true},
		{group{1, nil}, []int{0}, true},
		{group{9, nil}, stay9, true},
		{group{9, nil}, swap9, false},
		{group{3, [][]int{{1, 2, 0}}}, []int{2, 0, 1}, true},
		{group{3, [][]int{{1, 2, 0}}}, []int{1, 0, 2}, false},
		{group{9, [][]int{turn9, {1, 2, 0, 3, 4, 5, 6, 7, 8}}}, swap9, false},
		{group{9, [][]int{turn9, swap9}}, lastSwap, true},
	} {
		if is, e := Contains(c.n, c.generators, c.p); e != api.OK || is != c.want {
			t.Errorf("Contains(%d, %v, %v) = %v, %d", c.n, c.generators, c.p, is, e)
		}
	}
}

// badElements are lists that are no permutations of degree 3.
var badElements = []struct {
	p    []int
	want api.Errno
}{
	{nil, api.ErrMalformed},
	{[]int{0, 1}, api.ErrMalformed},
	{[]int{0, 1, 2, 3}, api.ErrMalformed},
	{[]int{0, 0}, api.ErrExists},
	{[]int{0, 1, 1}, api.ErrExists},
	{[]int{0, 2}, api.ErrArgument},
	{[]int{0, 1, 3}, api.ErrArgument},
	{[]int{0, 1, math.MinInt}, api.ErrArgument},
	{length10, api.ErrTooLarge},
}

func TestContainsErrors(t *testing.T) {
	for _, c := range badElements {
		for _, generators := range [][][]int{nil, {{1, 0, 2}}, neighbours(3)} {
			if is, e := Contains(3, generators, c.p); e != c.want || is {
				t.Errorf("Contains(3, %v, %v) = %v, %d, want error %d", generators, c.p, is, e, c.want)
			}
		}
	}
	if _, e := Contains(0, nil, []int{0}); e != api.ErrMalformed {
		t.Errorf("Contains(0, [], [0]): error %d", e)
	}
}

// P2.3

func TestOrbits(t *testing.T) {
	for _, c := range []struct {
		group
		want string
	}{
		{group{0, nil}, "[]"},
		{group{0, [][]int{nil}}, "[]"},
		{group{1, nil}, "[[0]]"},
		{group{3, nil}, "[[0] [1] [2]]"},
		{group{3, [][]int{{0, 1, 2}}}, "[[0] [1] [2]]"},
		{group{4, [][]int{{0, 3, 2, 1}}}, "[[0] [1 3] [2]]"},
		{group{4, [][]int{{3, 2, 1, 0}}}, "[[0 3] [1 2]]"},
		// The points of an orbit come in increasing order, not in the order of a cycle.
		{group{5, [][]int{{4, 1, 0, 3, 2}}}, "[[0 2 4] [1] [3]]"},
		// Generators join the orbits of each other.
		{group{6, [][]int{{0, 5, 2, 3, 4, 1}, {0, 1, 5, 3, 4, 2}}}, "[[0] [1 2 5] [3] [4]]"},
		{group{9, [][]int{turn9}}, "[[0 1 2 3 4 5 6 7 8]]"},
		{group{9, [][]int{{8, 1, 2, 3, 4, 5, 6, 7, 0}, {7, 1, 2, 3, 4, 5, 6, 0, 8}}}, "[[0 7 8] [1] [2] [3] [4] [5] [6]]"},
	} {
		if l, e := Orbits(c.n, c.generators); e != api.OK || fmt.Sprint(l) != c.want {
			t.Errorf("Orbits(%d, %v) = %v, %d, want %s", c.n, c.generators, l, e, c.want)
		}
	}
}

// imagesOf returns the points to which the elements map a point, in increasing order.
func imagesOf(all map[int][]int, point int) []int {
	var l []int
	for _, p := range all {
		if !slices.Contains(l, p[point]) {
			l = append(l, p[point])
		}
	}
	slices.Sort(l)
	return l
}

func TestOrbitsOfSmallGroups(t *testing.T) {
	for _, g := range smallGroups() {
		all := members(g)
		var want [][]int
		for point := range g.n {
			if l := imagesOf(all, point); l[0] == point {
				want = append(want, l)
			}
		}
		if l, e := Orbits(g.n, g.generators); e != api.OK || !slices.EqualFunc(l, want, slices.Equal) {
			t.Errorf("Orbits(%d, %v) = %v, %d, want %v", g.n, g.generators, l, e, want)
		}
	}
}

func TestStabilizerOrder(t *testing.T) {
	for _, c := range []struct {
		group
		point, want int
	}{
		{group{1, nil}, 0, 1},
		{group{9, nil}, 8, 1},
		{group{3, [][]int{{1, 0, 2}, {0, 2, 1}}}, 1, 2},
		{group{3, [][]int{{1, 0, 2}}}, 0, 1},
		{group{3, [][]int{{1, 0, 2}}}, 2, 2},
		{group{9, [][]int{turn9}}, 4, 1},
		{group{9, [][]int{turn9, swap9}}, 0, 40320},
		{group{9, [][]int{turn9, swap9}}, 8, 40320},
		{group{9, [][]int{turn7of9, swap9, lastSwap}}, 0, 1440},
		{group{9, [][]int{turn7of9, swap9, lastSwap}}, 7, 5040},
	} {
		if k, e := StabilizerOrder(c.n, c.generators, c.point); e != api.OK || k != c.want {
			t.Errorf("StabilizerOrder(%d, %v, %d) = %d, %d, want %d", c.n, c.generators, c.point, k, e, c.want)
		}
	}
}

func TestStabilizerOrderOfSmallGroups(t *testing.T) {
	for _, g := range smallGroups() {
		all := members(g)
		for point := range g.n {
			want := 0
			for _, p := range all {
				if p[point] == point {
					want++
				}
			}
			if k, e := StabilizerOrder(g.n, g.generators, point); e != api.OK || k != want {
				t.Errorf("StabilizerOrder(%d, %v, %d) = %d, %d, want %d", g.n, g.generators, point, k, e, want)
			}
		}
	}
}

func TestStabilizerOrderErrors(t *testing.T) {
	for _, c := range []struct {
		group
		point int
	}{
		{group{0, nil}, 0},
		{group{0, nil}, -1},
		{group{3, neighbours(3)}, -1},
		{group{3, neighbours(3)}, 3},
		{group{3, nil}, 8},
		{group{9, [][]int{turn9}}, 9},
		{group{9, [][]int{turn9}}, math.MaxInt},
		{group{9, [][]int{turn9}}, math.MinInt},
	} {
		if k, e := StabilizerOrder(c.n, c.generators, c.point); e != api.ErrArgument || k != 0 {
			t.Errorf("StabilizerOrder(%d, %v, %d) = %d, %d", c.n, c.generators, c.point, k, e)
		}
	}
}

// P2.4

func TestFactor(t *testing.T) {
	for _, c := range []struct {
		group
		p    []int
		want string
	}{
		{group{0, nil}, nil, "[]"},
		{group{0, [][]int{nil}}, nil, "[]"},
		{group{3, nil}, []int{0, 1, 2}, "[]"},
		{group{3, neighbours(3)}, []int{0, 1, 2}, "[]"},
		{group{3, neighbours(3)}, []int{2, 1, 0}, "[1 2 1]"},
		// The first letter is applied first.
		{group{3, neighbours(3)}, []int{1, 2, 0}, "[2 1]"},
		{group{3, neighbours(3)}, []int{2, 0, 1}, "[1 2]"},
		{group{3, [][]int{{1, 2, 0}}}, []int{2, 0, 1}, "[-1]"},
		// 1 comes before -1, and -1 before 2.
		{group{3, [][]int{{1, 0, 2}}}, []int{1, 0, 2}, "[1]"},
		{group{4, [][]int{{1, 2, 3, 0}}}, []int{2, 3, 0, 1}, "[1 1]"},
		{group{3, [][]int{{1, 2, 0}, {2, 0, 1}}}, []int{2, 0, 1}, "[-1]"},
		{group{3, [][]int{{0, 1, 2}, {1, 2, 0}, {2, 0, 1}}}, []int{2, 0, 1}, "[-2]"},
		{group{5, [][]int{{1, 2, 3, 4, 0}, {2, 3, 4, 0, 1}}}, []int{2, 3, 4, 0, 1}, "[2]"},
		{group{5, [][]int{{1, 2, 3, 4, 0}, {2, 3, 4, 0, 1}}}, []int{3, 4, 0, 1, 2}, "[-2]"},
		// Of equal generators the first one serves.
		{group{2, [][]int{{1, 0}, {1, 0}}}, []int{1, 0}, "[1]"},
		{group{9, [][]int{turn9}}, []int{4, 5, 6, 7, 8, 0, 1, 2, 3}, "[1 1 1 1]"},
		{group{9, [][]int{turn9}}, []int{5, 6, 7, 8, 0, 1, 2, 3, 4}, "[-1 -1 -1 -1]"},
		// A group with as many elements as there may be.
		{group{7, neighbours(7)}, []int{6, 5, 4, 3, 2, 1, 0}, "[1 2 1 3 2 1 4 3 2 1 5 4 3 2 1 6 5 4 3 2 1]"},
	} {
		if w, e := Factor(c.n, c.generators, c.p); e != api.OK || fmt.Sprint(w) != c.want {
			t.Errorf("Factor(%d, %v, %v) = %v, %d, want %s", c.n, c.generators, c.p, w, e, c.want)
		}
	}
}

// word is a word with its value.
type word struct {
	letters []int
	value   []int
}

// extended returns all words that are one of the words with one more letter, in the order in which words are compared.
func extended(g group, words []word) []word {
	var all []word
	for _, w := range words {
		for i, x := range g.generators {
			inverse, _ := perm.Inverse(x)
			up, _ := perm.Compose(w.value, x)
			down, _ := perm.Compose(w.value, inverse)
			begin := w.letters[:len(w.letters):len(w.letters)]
			all = append(all, word{append(begin, i+1), up}, word{append(begin, -i-1), down})
		}
	}
	return all
}

// TestFactorOfSmallGroups goes through all words, the shortest ones first, until each element had one.
func TestFactorOfSmallGroups(t *testing.T) {
	for _, g := range smallGroups() {
		if g.n > 4 {
			continue
		}
		order := len(members(g))
		done := map[string]bool{}
		for words := []word{{nil, stay9[:g.n]}}; len(done) < order; words = extended(g, words) {
			for _, want := range words {
				if done[fmt.Sprint(want.value)] {
					continue
				}
				done[fmt.Sprint(want.value)] = true
				if w, e := Factor(g.n, g.generators, want.value); e != api.OK || !slices.Equal(w, want.letters) {
					t.Errorf("Factor(%d, %v, %v) = %v, %d, want %v", g.n, g.generators, want.value, w, e, want.letters)
				}
			}
		}
	}
}

// TestFactorByNeighbours: a word of exchanges of neighbours needs as many letters as there are pairs in the wrong order.
func TestFactorByNeighbours(t *testing.T) {
	generators := neighbours(7)
	for rank := 0; rank < 5040; rank += 101 {
		p, _ := perm.Unrank(7, rank)
		length := 0
		for i := range p {
			for _, y := range p[:i] {
				if y > p[i] {
					length++
				}
			}
		}
		w, e := Factor(7, generators, p)
		if e != api.OK || len(w) != length {
			t.Errorf("Factor(7, neighbours, %v) = %v, %d, want %d letters", p, w, e, length)
		}
		value := stay9[:7]
		for _, letter := range w {
			// An exchange is its own inverse, whose letter comes later.
			if letter < 0 {
				t.Fatalf("Factor(7, neighbours, %v) = %v", p, w)
			}
			value, _ = perm.Compose(value, generators[letter-1])
		}
		if !slices.Equal(value, p) {
			t.Errorf("Factor(7, neighbours, %v) = %v has the value %v", p, w, value)
		}
	}
}

func TestFactorErrors(t *testing.T) {
	large := group{9, [][]int{turn7of9, swap9, lastSwap}} // has twice MaxElements elements
	all := group{9, [][]int{turn9, swap9}}
	for _, c := range []struct {
		group
		p    []int
		want api.Errno
	}{
		{large, stay9, api.ErrTooLarge},
		{large, swap9, api.ErrTooLarge},
		{large, turn9, api.ErrTooLarge}, // is not in the group
		{all, turn9, api.ErrTooLarge},
		{group{8, neighbours(8)[:6]}, stay9[:8], api.OK}, // has MaxElements elements

		{large, stay9[:8], api.ErrMalformed},
		{all, []int{1, 1}, api.ErrExists},
		{all, length10, api.ErrTooLarge},

		{group{2, nil}, []int{1, 0}, api.ErrNotFound},
		{group{2, [][]int{{0, 1}}}, []int{1, 0}, api.ErrNotFound},
		{group{3, [][]int{{1, 2, 0}}}, []int{1, 0, 2}, api.ErrNotFound},
		{group{9, neighbours(9)[:6]}, lastSwap, api.ErrNotFound},
	} {
		if w, e := Factor(c.n, c.generators, c.p); e != c.want || len(w) != 0 {
			t.Errorf("Factor(%d, %v, %v) = %v, %d, want error %d", c.n, c.generators, c.p, w, e, c.want)
		}
	}
	for _, c := range badElements {
		if w, e := Factor(3, neighbours(3), c.p); e != c.want || len(w) != 0 {
			t.Errorf("Factor(3, neighbours, %v) = %v, %d, want error %d", c.p, w, e, c.want)
		}
	}
}

func TestMaxElements(t *testing.T) {
	if MaxElements != 5040 {
		t.Error(MaxElements)
	}
}

// TestExample is the example of the chapter.
func TestExample(t *testing.T) {
	generators := [][]int{{1, 0, 2}, {0, 2, 1}}
	order, _ := Order(3, generators)
	w, _ := Factor(3, generators, []int{2, 1, 0})
	if got := fmt.Sprint(order, w); got != "6 [1 2 1]" {
		t.Error(got)
	}
}
