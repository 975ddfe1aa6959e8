package link

import (
	"slices"
	"testing"

	"timbrel/api"
	"timbrel/coloring"
	"timbrel/perm"
)

// P16.1: Components.
func TestComponents(t *testing.T) {
	for _, c := range []struct {
		n    int
		w    []int
		want [][]int
	}{
		// No letters: each strand is a component.
		{1, nil, [][]int{{0}}},
		{1, []int{}, [][]int{{0}}},
		{2, nil, [][]int{{0}, {1}}},
		{6, nil, [][]int{{0}, {1}, {2}, {3}, {4}, {5}}},

		// One letter.
		{2, []int{1}, [][]int{{0, 1}}},
		{2, []int{-1}, [][]int{{0, 1}}},
		{4, []int{1}, [][]int{{0, 1}, {2}, {3}}},
		{4, []int{-2}, [][]int{{0}, {1, 2}, {3}}},
		{6, []int{5}, [][]int{{0}, {1}, {2}, {3}, {4, 5}}},

		// Several letters.
		{2, []int{1, 1}, [][]int{{0}, {1}}}, // the chapter's example
		{2, []int{1, -1}, [][]int{{0}, {1}}},
		{2, []int{1, 1, 1}, [][]int{{0, 1}}},
		{3, []int{1, 2}, [][]int{{0, 1, 2}}},
		{3, []int{2, 1}, [][]int{{0, 1, 2}}},
		{3, []int{1, 2, 1, 2}, [][]int{{0, 1, 2}}},
		{3, repeat(3, 1, -2), [][]int{{0}, {1}, {2}}},
		{4, []int{1, 3, 3}, [][]int{{0, 1}, {2}, {3}}},
		{4, []int{1, 3}, [][]int{{0, 1}, {2, 3}}},
		{6, []int{5, -4, 3, -2, 1}, [][]int{{0, 1, 2, 3, 4, 5}}},

		// Strands of a component that are not side by side, and components that end in another order.
		{3, []int{1, 2, 1}, [][]int{{0, 2}, {1}}},
		{3, []int{-1, 2, 1}, [][]int{{0, 2}, {1}}},
		{4, []int{2, 1, 3, 2}, [][]int{{0, 2}, {1, 3}}},
		{4, []int{1, 2, 3, 1, 2, 1}, [][]int{{0, 3}, {1, 2}}},
		{5, []int{4, 3, 2, 1, 2, 3, 4}, [][]int{{0, 4}, {1}, {2}, {3}}},
		{6, repeat(2, 1, 2, 3, 4, 5), [][]int{{0, 2, 4}, {1, 3, 5}}},
		{6, repeat(3, -5, -4, -3, -2, -1), [][]int{{0, 3}, {1, 4}, {2, 5}}},
	} {
		if l, e := Components(c.n, c.w); e != api.OK || !sameLists(l, c.want) {
			t.Errorf("Components(%d, %v) = %v, %d, want %v", c.n, c.w, l, e, c.want)
		}
	}
}

// P16.1: words of all lengths up to MaxBraid.
func TestComponentsFollowTheDefinition(t *testing.T) {
	for _, c := range samples(api.MaxBraid) {
		want := plainComponents(c.n, c.w)
		if l := components(t, c.n, c.w); !sameLists(l, want) {
			t.Errorf("Components(%d, %v) = %v, want %v", c.n, c.w, l, want)
		}
	}
}

// wordOf returns positive letters that sort a permutation.
func wordOf(p []int) []int {
	p = slices.Clone(p)
	var w []int
	for range p {
		for i := 1; i < len(p); i++ {
			if p[i-1] > p[i] {
				p[i-1], p[i] = p[i], p[i-1]
				w = append(w, i)
			}
		}
	}
	return w
}

// P16.1: the components of each permutation are its cycles and the strands that it leaves in place.
func TestComponentsOfPermutations(t *testing.T) {
	size := 1
	for n := 1; n <= api.MaxStrands; n++ {
		size *= n
		for rank := range size {
			p, _ := perm.Unrank(n, rank)
			want, _ := perm.Cycles(p)
			for i, x := range p {
				if i == x {
					want = append(want, []int{i})
				}
			}
			for _, c := range want {
				slices.Sort(c)
			}
			slices.SortFunc(want, slices.Compare[[]int])
			w := wordOf(p)
			if l := components(t, n, w); !sameLists(l, want) {
				t.Errorf("Components(%d, %v) = %v, want %v", n, w, l, want)
			}
		}
	}
}

// P16.1: k staircases move each strand by k positions around, so the strands of a component differ by multiples of gcd(n, k).
func TestComponentsOfStaircases(t *testing.T) {
	for n := 2; n <= api.MaxStrands; n++ {
		for k := 0; k*(n-1) <= api.MaxBraid; k++ {
			d := plainGCD(k, n)
			want := make([][]int, d)
			for strand := range n {
				want[strand%d] = append(want[strand%d], strand)
			}
			w := repeat(k, staircase(n)...)
			for _, v := range [][]int{w, mirrored(w), backward(w)} {
				if l := components(t, n, v); !sameLists(l, want) {
					t.Errorf("Components(%d, %v) = %v, want %v", n, v, l, want)
				}
			}
		}
	}
}

// P16.1: the signs of the letters and their order from the end do not matter.
func TestComponentsOfMirrorImage(t *testing.T) {
	for _, c := range samples(api.MaxBraid) {
		want := components(t, c.n, c.w)
		signless := slices.Clone(c.w)
		for i, x := range signless {
			signless[i] = plainIndex(x)
		}
		for _, w := range [][]int{signless, mirrored(c.w), backward(c.w), mirrored(backward(c.w))} {
			if l := components(t, c.n, w); !sameLists(l, want) {
				t.Errorf("Components(%d, %v) = %v, but for %v it is %v", c.n, w, l, c.w, want)
			}
		}
	}
}

// P16.1: words that are equal as braids have the same components.
func TestComponentsOfEqualBraids(t *testing.T) {
	var s source
	for _, r := range relations() {
		u, v := s.word(r.n, s.below(10)), s.word(r.n, s.below(10))
		a, b := slices.Concat(u, r.a, v), slices.Concat(u, r.b, v)
		if first, second := components(t, r.n, a), components(t, r.n, b); !sameLists(first, second) {
			t.Errorf("on %d strands: %v for %v, but %v for %v", r.n, first, a, second, b)
		}
	}
}

// P16.1: modulo 2, each strand keeps its color at a crossing, so each component has one of two colors.
func TestComponentsAgreeWithColorings(t *testing.T) {
	for _, c := range samples(api.MaxBraid) {
		count, e := coloring.Count(c.n, c.w, 2)
		if l := components(t, c.n, c.w); e != api.OK || count != 1<<len(l) {
			t.Errorf("Components(%d, %v) = %v, but there are %d colorings with two colors, %d", c.n, c.w, l, count, e)
		}
	}
}

// P16.1: the errors of braid.Check.
func TestErrorsOfComponents(t *testing.T) {
	for _, c := range commonErrors {
		l, e := Components(c.n, c.w)
		if e != c.want || e != api.OK && len(l) != 0 {
			t.Errorf("Components(%d, %v) = %v, %d, want error %d", c.n, c.w, l, e, c.want)
		}
	}
}
