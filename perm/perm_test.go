package perm

import (
	"fmt"
	"math"
	"slices"
	"testing"

	"timbrel/api"
)

var (
	tooLong     = []int{0, 1, 2, 3, 4, 5, 6, 7, 8, 9}
	longest     = []int{0, 1, 2, 3, 4, 5, 6, 7, 8}
	longestBack = []int{8, 7, 6, 5, 4, 3, 2, 1, 0}
)

// permutations returns all permutations of degree n in lexicographic order.
func permutations(n int) [][]int {
	var all [][]int
	var extend func(prefix []int)
	extend = func(prefix []int) {
		if len(prefix) == n {
			all = append(all, slices.Clone(prefix))
			return
		}
		for x := range n {
			if !slices.Contains(prefix, x) {
				extend(append(slices.Clone(prefix), x))
			}
		}
	}
	extend(nil)
	return all
}

// upTo returns all permutations of the degrees from 0 to n.
func upTo(n int) [][]int {
	var all [][]int
	for degree := range n + 1 {
		all = append(all, permutations(degree)...)
	}
	return all
}

func isIdentity(p []int) bool {
	for i, x := range p {
		if x != i {
			return false
		}
	}
	return true
}

// P1.1

var checkCases = []struct {
	p    []int
	want api.Errno
}{
	{nil, api.OK},
	{[]int{}, api.OK},
	{[]int{0}, api.OK},
	{[]int{1, 0}, api.OK},
	{[]int{2, 0, 1}, api.OK},
	{longest, api.OK},
	{longestBack, api.OK},

	{tooLong, api.ErrTooLarge},
	{make([]int, 1000), api.ErrTooLarge},
	{[]int{-1, -1, -1, -1, -1, -1, -1, -1, -1, -1}, api.ErrTooLarge},

	{[]int{1}, api.ErrArgument},
	{[]int{-1}, api.ErrArgument},
	{[]int{1, 2}, api.ErrArgument},
	{[]int{0, 1, 3}, api.ErrArgument},
	{[]int{0, 1, 9}, api.ErrArgument},
	{[]int{math.MinInt, 0}, api.ErrArgument},
	{[]int{0, math.MaxInt}, api.ErrArgument},
	{[]int{0, 1, 2, 3, 4, 5, 6, 7, 9}, api.ErrArgument},

	{[]int{0, 0}, api.ErrExists},
	{[]int{1, 2, 1}, api.ErrExists},
	{[]int{0, 1, 2, 3, 4, 5, 6, 7, 0}, api.ErrExists},

	// Elements are checked one after another: the first bad one determines the error.
	{[]int{0, 0, 3}, api.ErrExists},
	{[]int{0, 3, 0}, api.ErrArgument},
	{[]int{0, 0, -1}, api.ErrExists},
	{[]int{5, 5}, api.ErrArgument},
}

func TestCheck(t *testing.T) {
	for _, c := range checkCases {
		if e := Check(c.p); e != c.want {
			t.Errorf("Check(%v) = %d, want %d", c.p, e, c.want)
		}
	}
	for _, p := range upTo(6) {
		if e := Check(p); e != api.OK {
			t.Errorf("Check(%v) = %d", p, e)
		}
	}
}

// TestErrorOfCheck: all functions with permutations as arguments return the error of Check.
func TestErrorOfCheck(t *testing.T) {
	for _, c := range checkCases {
		for name, e := range errorsOf(c.p) {
			if e != c.want {
				t.Errorf("%s of %v: error %d, want %d", name, c.p, e, c.want)
			}
		}
	}
}

func errorsOf(p []int) map[string]api.Errno {
	l := map[string]api.Errno{}
	_, l["Compose"] = Compose(p, p)
	_, l["Inverse"] = Inverse(p)
	_, l["Power 0"] = Power(p, 0)
	_, l["Power 1"] = Power(p, 1)
	_, l["Power -1"] = Power(p, -1)
	_, l["Order"] = Order(p)
	_, l["Sign"] = Sign(p)
	_, l["Cycles"] = Cycles(p)
	_, l["Rank"] = Rank(p)
	return l
}

// P1.2

func TestCompose(t *testing.T) {
	for _, c := range []struct{ a, b, want []int }{
		{nil, nil, nil},
		{nil, []int{}, nil},
		{[]int{0}, []int{0}, []int{0}},
		// a applies first: it maps 0 to 2, and b maps 2 to 2.
		{[]int{2, 0, 1}, []int{1, 0, 2}, []int{2, 1, 0}},
		{[]int{1, 0, 2}, []int{2, 0, 1}, []int{0, 2, 1}},
		{longestBack, longestBack, longest},
		{[]int{1, 2, 3, 4, 5, 6, 7, 8, 0}, longestBack, []int{7, 6, 5, 4, 3, 2, 1, 0, 8}},
	} {
		p, e := Compose(c.a, c.b)
		if e != api.OK || !slices.Equal(p, c.want) {
			t.Errorf("Compose(%v, %v) = %v, %d, want %v", c.a, c.b, p, e, c.want)
		}
	}
}

func TestComposeAppliesFirstArgumentFirst(t *testing.T) {
	for n := range 5 {
		for _, a := range permutations(n) {
			for _, b := range permutations(n) {
				p, e := Compose(a, b)
				if e != api.OK || len(p) != n {
					t.Fatalf("Compose(%v, %v) = %v, %d", a, b, p, e)
				}
				for i := range p {
					if p[i] != b[a[i]] {
						t.Errorf("Compose(%v, %v) = %v maps %d wrongly", a, b, p, i)
					}
				}
			}
		}
	}
}

func TestComposeErrors(t *testing.T) {
	for _, c := range []struct {
		a, b []int
		want api.Errno
	}{
		{[]int{2, 0, 1}, []int{0}, api.ErrMalformed},
		{[]int{0}, []int{2, 0, 1}, api.ErrMalformed},
		{nil, []int{0}, api.ErrMalformed},
		{[]int{0}, nil, api.ErrMalformed},
		{longest, longest[:8], api.ErrMalformed},

		{[]int{0, 2}, []int{0, 1}, api.ErrArgument},
		{[]int{0, 1}, []int{0, 2}, api.ErrArgument},
		{[]int{1, 1}, []int{0, 1}, api.ErrExists},
		{[]int{0, 1}, []int{1, 1}, api.ErrExists},
		{tooLong, tooLong, api.ErrTooLarge},

		// The error of a comes before that of b, and both before different degrees.
		{[]int{0, 2}, []int{1, 1}, api.ErrArgument},
		{[]int{1, 1}, []int{0, 2}, api.ErrExists},
		{[]int{1, 1}, tooLong, api.ErrExists},
		{tooLong, []int{1, 1}, api.ErrTooLarge},
		{[]int{0}, []int{1, 1}, api.ErrExists},
		{[]int{1, 1}, []int{0}, api.ErrExists},
		{longest, tooLong, api.ErrTooLarge},
	} {
		p, e := Compose(c.a, c.b)
		if e != c.want || len(p) != 0 {
			t.Errorf("Compose(%v, %v) = %v, %d, want error %d", c.a, c.b, p, e, c.want)
		}
	}
}

func TestInverse(t *testing.T) {
	for _, c := range []struct{ a, want []int }{
		{nil, nil},
		{[]int{0}, []int{0}},
		{[]int{2, 0, 1}, []int{1, 2, 0}},
		{[]int{1, 0, 2}, []int{1, 0, 2}},
		{[]int{1, 2, 3, 4, 5, 6, 7, 8, 0}, []int{8, 0, 1, 2, 3, 4, 5, 6, 7}},
	} {
		if p, e := Inverse(c.a); e != api.OK || !slices.Equal(p, c.want) {
			t.Errorf("Inverse(%v) = %v, %d, want %v", c.a, p, e, c.want)
		}
	}
	for _, a := range upTo(6) {
		p, e := Inverse(a)
		if e != api.OK || len(p) != len(a) {
			t.Fatalf("Inverse(%v) = %v, %d", a, p, e)
		}
		for i, x := range a {
			if p[x] != i {
				t.Errorf("Inverse(%v) = %v does not undo it", a, p)
			}
		}
	}
}

// P1.3

func TestPower(t *testing.T) {
	a := []int{2, 0, 1}
	swap := []int{1, 0}
	// The order is 20, the greatest one of degree 9.
	slow := []int{1, 2, 3, 0, 5, 6, 7, 8, 4}
	for _, c := range []struct {
		a    []int
		k    int
		want []int
	}{
		{nil, 5, nil},
		{nil, math.MinInt, nil},
		{[]int{0}, math.MaxInt, []int{0}},
		{a, 0, []int{0, 1, 2}},
		{a, 1, a},
		{a, 2, []int{1, 2, 0}},
		{a, 3, []int{0, 1, 2}},
		{a, -1, []int{1, 2, 0}},
		{a, -2, a},
		{a, -3, []int{0, 1, 2}},
		{a, math.MaxInt, a}, // 2^63 - 1 leaves 1 modulo 3
		{a, math.MinInt, a}, // -2^63 leaves 1 modulo 3
		{a, math.MinInt + 1, []int{1, 2, 0}},
		{swap, math.MaxInt, swap},
		{swap, math.MinInt, []int{0, 1}},
		{slow, 20, longest},
		{slow, -20, longest},
		{slow, 10, []int{2, 3, 0, 1, 4, 5, 6, 7, 8}},
		{slow, 1000000000000000001, slow},
	} {
		if p, e := Power(c.a, c.k); e != api.OK || !slices.Equal(p, c.want) {
			t.Errorf("Power(%v, %d) = %v, %d, want %v", c.a, c.k, p, e, c.want)
		}
	}
}

func TestPowerIsRepeatedApplication(t *testing.T) {
	for _, a := range upTo(5) {
		inverse, _ := Inverse(a)
		up, down := slices.Clone(a), slices.Clone(a)
		for i := range a {
			up[i], down[i] = i, i
		}
		for k := range 15 {
			if p, e := Power(a, k); e != api.OK || !slices.Equal(p, up) {
				t.Errorf("Power(%v, %d) = %v, %d, want %v", a, k, p, e, up)
			}
			if p, e := Power(a, -k); e != api.OK || !slices.Equal(p, down) {
				t.Errorf("Power(%v, %d) = %v, %d, want %v", a, -k, p, e, down)
			}
			up, _ = Compose(up, a)
			down, _ = Compose(down, inverse)
		}
	}
}

// P1.4

func TestCycles(t *testing.T) {
	for _, c := range []struct {
		a    []int
		want [][]int
	}{
		{nil, nil},
		{[]int{0}, nil},
		{longest, nil},
		{[]int{1, 0}, [][]int{{0, 1}}},
		// After the smallest element comes its image, not the next greater element.
		{[]int{2, 0, 1}, [][]int{{0, 2, 1}}},
		{[]int{3, 2, 1, 0, 4}, [][]int{{0, 3}, {1, 2}}},
		{[]int{0, 3, 4, 1, 2}, [][]int{{1, 3}, {2, 4}}},
		{longestBack, [][]int{{0, 8}, {1, 7}, {2, 6}, {3, 5}}},
		{[]int{8, 0, 1, 2, 3, 4, 5, 6, 7}, [][]int{{0, 8, 7, 6, 5, 4, 3, 2, 1}}},
		{[]int{0, 8, 5, 7, 4, 2, 6, 1, 3}, [][]int{{1, 8, 3, 7}, {2, 5}}},
	} {
		l, e := Cycles(c.a)
		if e != api.OK || !slices.EqualFunc(l, c.want, slices.Equal) {
			t.Errorf("Cycles(%v) = %v, %d, want %v", c.a, l, e, c.want)
		}
	}
}

func TestCyclesOfAll(t *testing.T) {
	for _, a := range upTo(6) {
		l, e := Cycles(a)
		if e != api.OK {
			t.Fatalf("Cycles(%v): error %d", a, e)
		}
		found := 0
		for i, c := range l {
			if len(c) < 2 || c[0] != slices.Min(c) {
				t.Errorf("Cycles(%v) = %v: cycle %d does not begin with its smallest element", a, l, i)
			}
			if i > 0 && l[i-1][0] >= c[0] {
				t.Errorf("Cycles(%v) = %v: not sorted", a, l)
			}
			for k, x := range c {
				if c[(k+1)%len(c)] != a[x] {
					t.Errorf("Cycles(%v) = %v: no image after %d", a, l, x)
				}
			}
			found += len(c)
		}
		moved := 0
		for i, x := range a {
			if x != i {
				moved++
			}
		}
		if found != moved {
			t.Errorf("Cycles(%v) = %v has %d elements, want %d", a, l, found, moved)
		}
	}
}

func TestOrder(t *testing.T) {
	for _, c := range []struct {
		a    []int
		want int
	}{
		{nil, 1},
		{[]int{0}, 1},
		{longest, 1},
		{[]int{1, 0}, 2},
		{[]int{2, 0, 1}, 3},
		{longestBack, 2},
		{[]int{1, 0, 3, 4, 2}, 6},
		{[]int{1, 0, 3, 4, 5, 2}, 4}, // cycles of 2 and 4: not their product
		{[]int{1, 2, 3, 0, 5, 6, 7, 8, 4}, 20},
		{[]int{1, 2, 3, 4, 5, 6, 7, 8, 0}, 9},
	} {
		if k, e := Order(c.a); e != api.OK || k != c.want {
			t.Errorf("Order(%v) = %d, %d, want %d", c.a, k, e, c.want)
		}
	}
}

func TestOrderIsSmallest(t *testing.T) {
	for _, a := range upTo(6) {
		want := 1
		for p := a; !isIdentity(p); want++ {
			p, _ = Compose(p, a)
		}
		if k, e := Order(a); e != api.OK || k != want {
			t.Errorf("Order(%v) = %d, %d, want %d", a, k, e, want)
		}
	}
}

func TestSign(t *testing.T) {
	for _, c := range []struct {
		a    []int
		want int
	}{
		{nil, 1},
		{[]int{0}, 1},
		{longest, 1},
		{[]int{1, 0}, -1},
		{[]int{1, 0, 2}, -1},
		{[]int{2, 1, 0}, -1},
		{[]int{2, 0, 1}, 1},
		{[]int{1, 0, 3, 2}, 1},
		{[]int{1, 2, 3, 0}, -1},
		{longestBack, 1},
		{longestBack[2:], -1},
	} {
		if k, e := Sign(c.a); e != api.OK || k != c.want {
			t.Errorf("Sign(%v) = %d, %d, want %d", c.a, k, e, c.want)
		}
	}
}

// TestSignCountsExchanges: sorting by exchanges of neighbours needs one exchange for each pair in the wrong order.
func TestSignCountsExchanges(t *testing.T) {
	for _, a := range upTo(6) {
		want := 1
		for i := range a {
			for _, y := range a[:i] {
				if y > a[i] {
					want = -want
				}
			}
		}
		if k, e := Sign(a); e != api.OK || k != want {
			t.Errorf("Sign(%v) = %d, %d, want %d", a, k, e, want)
		}
	}
}

// P1.5

func TestRankAndUnrankOfAll(t *testing.T) {
	for n := range 8 {
		for rank, a := range permutations(n) {
			if k, e := Rank(a); e != api.OK || k != rank {
				t.Fatalf("Rank(%v) = %d, %d, want %d", a, k, e, rank)
			}
			if p, e := Unrank(n, rank); e != api.OK || !slices.Equal(p, a) {
				t.Fatalf("Unrank(%d, %d) = %v, %d, want %v", n, rank, p, e, a)
			}
		}
	}
}

func TestRankAndUnrank(t *testing.T) {
	for _, c := range []struct {
		a    []int
		rank int
	}{
		{nil, 0},
		{[]int{0}, 0},
		{[]int{2, 0, 1}, 4},
		{longest, 0},
		{[]int{0, 1, 2, 3, 4, 5, 6, 8, 7}, 1},
		{[]int{1, 0, 2, 3, 4, 5, 6, 7, 8}, 40320},
		{longestBack, 362879},
	} {
		if k, e := Rank(c.a); e != api.OK || k != c.rank {
			t.Errorf("Rank(%v) = %d, %d, want %d", c.a, k, e, c.rank)
		}
		if p, e := Unrank(len(c.a), c.rank); e != api.OK || !slices.Equal(p, c.a) {
			t.Errorf("Unrank(%d, %d) = %v, %d, want %v", len(c.a), c.rank, p, e, c.a)
		}
	}
}

func TestUnrankErrors(t *testing.T) {
	for _, c := range []struct {
		n, rank int
		want    api.Errno
	}{
		{-1, 0, api.ErrArgument},
		{10, 0, api.ErrArgument},
		{math.MinInt, 0, api.ErrArgument},
		{math.MaxInt, 0, api.ErrArgument},
		{0, 1, api.ErrNotFound},
		{0, -1, api.ErrNotFound},
		{1, 1, api.ErrNotFound},
		{3, 6, api.ErrNotFound},
		{3, -1, api.ErrNotFound},
		{9, 362880, api.ErrNotFound},
		{9, math.MaxInt, api.ErrNotFound},
		{9, math.MinInt, api.ErrNotFound},
		// The degree is checked before the rank.
		{-1, -1, api.ErrArgument},
		{10, -1, api.ErrArgument},
		{10, math.MaxInt, api.ErrArgument},
	} {
		p, e := Unrank(c.n, c.rank)
		if e != c.want || len(p) != 0 {
			t.Errorf("Unrank(%d, %d) = %v, %d, want error %d", c.n, c.rank, p, e, c.want)
		}
	}
}

// TestExample is the example of the chapter.
func TestExample(t *testing.T) {
	a := []int{2, 0, 1}
	cycles, _ := Cycles(a)
	order, _ := Order(a)
	sign, _ := Sign(a)
	rank, _ := Rank(a)
	if got := fmt.Sprint(cycles, order, sign, rank); got != "[[0 2 1]] 3 1 4" {
		t.Error(got)
	}
}
