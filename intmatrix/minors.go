package intmatrix

import "math/bits"

// A set of rows or columns is a number in which bit i stands for element i.

// minors returns the determinants of all square submatrices: the one with a set of rows and a set of columns of equal size is at [rows][cols]. At other pairs of sets it is 0.
//
// Expansion works without intermediate values beyond 6! * 100^6 = 7.2e14. Elimination would not: the products of two minors with 5 rows can exceed 64 bits.
func minors(m [][]int) [][]int {
	table := make([][]int, 1<<len(m))
	for rows := range table {
		table[rows] = make([]int, 1<<columns(m))
		for cols := range table[rows] {
			if size(rows) == size(cols) {
				table[rows][cols] = expand(m, table, rows, cols)
			}
		}
	}
	return table
}

// expand computes a minor along its first row from those without this row, whose sets are smaller numbers.
func expand(m, table [][]int, rows, cols int) int {
	if rows == 0 {
		return 1
	}
	first := bits.TrailingZeros(uint(rows))
	rest := table[rows&^(1<<first)]
	det, sign := 0, 1
	for col, x := range m[first] {
		if cols&(1<<col) != 0 {
			det += sign * x * rest[cols&^(1<<col)]
			sign = -sign
		}
	}
	return det
}

// divisors returns d(k), the greatest common divisor of all minors with k rows, for each k from 0.
func divisors(m [][]int) []int {
	d := make([]int, min(len(m), columns(m))+1)
	for rows, line := range minors(m) {
		for cols, minor := range line {
			if k := size(rows); k == size(cols) {
				d[k] = gcd(d[k], minor)
			}
		}
	}
	return d
}

func size(set int) int {
	return bits.OnesCount(uint(set))
}
