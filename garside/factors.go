package garside

import (
	"slices"

	"timbrel/braid"
	"timbrel/perm"
)

// split writes a braid as a power of the half twist followed by permutation braids, one for each letter.
func split(n int, w []int) (int, [][]int) {
	power := 0
	factors := make([][]int, len(w))
	// From the last letter to the first, because each letter is passed by the half twists of all letters after it on their way to the front.
	for j, x := range slices.Backward(w) {
		if power%2 != 0 {
			x = mirror(n, x)
		}
		factors[j] = factorOf(n, x)
		if x < 0 {
			power--
		}
	}
	return power, factors
}

// mirror returns the letter that x becomes when a half twist passes it.
func mirror(n, x int) int {
	if x > 0 {
		return n - x
	}
	return -n - x
}

// factorOf returns the permutation braid of a positive letter. A negative one is preceded by a half twist, for which the caller accounts.
func factorOf(n, x int) []int {
	// There are no errors: x is a letter of a checked word, and the degrees are equal.
	p, _ := braid.Permutation(n, []int{x})
	if x < 0 {
		p, _ = perm.Compose(halfTwist(n), p)
	}
	return p
}

// tightenAll makes all pairs of neighbours tight, without changing the product.
func tightenAll(factors [][]int) {
	// Making one pair tight can make room in another. This ends, as each move brings a crossing nearer to the front.
	for moved := true; moved; {
		moved = false
		for j := len(factors) - 1; j > 0; j-- {
			if tighten(factors[j-1], factors[j]) {
				moved = true
			}
		}
	}
}

// tighten moves crossings from the beginning of b to the end of a until the pair is tight. It reports whether there were any.
func tighten(a, b []int) bool {
	c, _ := perm.Inverse(a)
	i := looseAt(c, b)
	if i < 0 {
		return false
	}
	for ; i >= 0; i = looseAt(c, b) {
		exchange(c, i)
		exchange(b, i)
	}
	for i, x := range c {
		a[x] = i
	}
	return true
}

// isTight reports whether a pair of permutations of the same degree is tight.
func isTight(a, b []int) bool {
	c, _ := perm.Inverse(a)
	return looseAt(c, b) < 0
}

// looseAt returns the first i whose crossing could be moved from the beginning of b to the end of the inverse of c, or -1.
func looseAt(c, b []int) int {
	for i := range len(b) - 1 {
		if b[i] > b[i+1] && c[i] < c[i+1] {
			return i
		}
	}
	return -1
}

// wordOf returns the word of a permutation.
func wordOf(p []int) []int {
	rest := slices.Clone(p)
	var w []int
	for i := descent(rest); i >= 0; i = descent(rest) {
		w = append(w, i+1)
		exchange(rest, i)
	}
	return w
}

// descent returns the smallest i with p(i) > p(i+1), or -1.
func descent(p []int) int {
	for i := range len(p) - 1 {
		if p[i] > p[i+1] {
			return i
		}
	}
	return -1
}

// exchange exchanges the elements i and i + 1.
func exchange(p []int, i int) {
	p[i], p[i+1] = p[i+1], p[i]
}

// halfTwist returns the permutation n - 1, n - 2, ..., 0.
func halfTwist(n int) []int {
	p := make([]int, n)
	for i := range p {
		p[i] = n - 1 - i
	}
	return p
}

func isHalfTwist(p []int) bool {
	return slices.Equal(p, halfTwist(len(p)))
}

func isIdentity(p []int) bool {
	return descent(p) < 0
}
