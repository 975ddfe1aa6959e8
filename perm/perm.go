// Package perm implements permutations.
package perm

import (
	"slices"

	"timbrel/api"
)

// Check reports whether p is a permutation.
func Check(p []int) api.Errno {
	if len(p) > api.MaxPoints {
		return api.ErrTooLarge
	}
	var seen [api.MaxPoints]bool
	for _, x := range p {
		if x < 0 || x >= len(p) {
			return api.ErrArgument
		}
		if seen[x] {
			return api.ErrExists
		}
		seen[x] = true
	}
	return api.OK
}

// Compose returns the permutation that applies a and then b.
func Compose(a, b []int) ([]int, api.Errno) {
	if e := Check(a); e != api.OK {
		return nil, e
	}
	if e := Check(b); e != api.OK {
		return nil, e
	}
	if len(a) != len(b) {
		return nil, api.ErrMalformed
	}
	return compose(a, b), api.OK
}

// Inverse returns the inverse permutation.
func Inverse(a []int) ([]int, api.Errno) {
	if e := Check(a); e != api.OK {
		return nil, e
	}
	p := make([]int, len(a))
	for i, x := range a {
		p[x] = i
	}
	return p, api.OK
}

// Power returns the k-th power of a.
func Power(a []int, k int) ([]int, api.Errno) {
	order, e := Order(a)
	if e != api.OK {
		return nil, e
	}
	// Only k modulo the order matters. Adding the order instead of negating k also serves the smallest int, which has no negative.
	steps := k % order
	if steps < 0 {
		steps += order
	}
	p := identity(len(a))
	for range steps {
		p = compose(p, a)
	}
	return p, api.OK
}

// Order returns the order of a.
func Order(a []int) (int, api.Errno) {
	cycles, e := Cycles(a)
	if e != api.OK {
		return 0, e
	}
	order := 1
	for _, c := range cycles {
		order = lcm(order, len(c))
	}
	return order, api.OK
}

// Sign returns 1 for an even permutation and -1 for an odd one.
func Sign(a []int) (int, api.Errno) {
	cycles, e := Cycles(a)
	if e != api.OK {
		return 0, e
	}
	sign := 1
	for _, c := range cycles {
		// A cycle of k elements is a product of k - 1 exchanges.
		if len(c)%2 == 0 {
			sign = -sign
		}
	}
	return sign, api.OK
}

// Cycles returns the cycles of length at least 2.
func Cycles(a []int) ([][]int, api.Errno) {
	if e := Check(a); e != api.OK {
		return nil, e
	}
	var cycles [][]int
	var seen [api.MaxPoints]bool
	for i := range a {
		if seen[i] {
			continue
		}
		c := cycleFrom(a, i)
		for _, x := range c {
			seen[x] = true
		}
		if len(c) > 1 {
			cycles = append(cycles, c)
		}
	}
	return cycles, api.OK
}

// Rank returns the lexicographic rank of a.
func Rank(a []int) (int, api.Errno) {
	if e := Check(a); e != api.OK {
		return 0, e
	}
	rank := 0
	for i, x := range a {
		rest := a[i:]
		rank = rank*len(rest) + countSmaller(rest, x)
	}
	return rank, api.OK
}

// Unrank returns the permutation of degree n with a lexicographic rank.
func Unrank(n, rank int) ([]int, api.Errno) {
	if n < 0 || n > api.MaxPoints {
		return nil, api.ErrArgument
	}
	block := factorial(n)
	if rank < 0 || rank >= block {
		return nil, api.ErrNotFound
	}
	unused := identity(n)
	p := make([]int, 0, n)
	for len(unused) > 0 {
		// Permutations that agree up to this position come in blocks, one for each unused number.
		block /= len(unused)
		i := rank / block
		rank %= block
		p = append(p, unused[i])
		unused = slices.Delete(unused, i, i+1)
	}
	return p, api.OK
}

func compose(a, b []int) []int {
	p := make([]int, len(a))
	for i, x := range a {
		p[i] = b[x]
	}
	return p
}

func identity(n int) []int {
	p := make([]int, n)
	for i := range p {
		p[i] = i
	}
	return p
}

func cycleFrom(a []int, start int) []int {
	c := []int{start}
	for x := a[start]; x != start; x = a[x] {
		c = append(c, x)
	}
	return c
}

func countSmaller(l []int, x int) int {
	n := 0
	for _, y := range l {
		if y < x {
			n++
		}
	}
	return n
}

func factorial(n int) int {
	f := 1
	for i := 2; i <= n; i++ {
		f *= i
	}
	return f
}

func lcm(a, b int) int {
	return a / gcd(a, b) * b
}

func gcd(a, b int) int {
	for b != 0 {
		a, b = b, a%b
	}
	return a
}
