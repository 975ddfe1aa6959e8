package alexander

import (
	"slices"

	"timbrel/api"
	"timbrel/braid"
	"timbrel/laurent"
)

// Why no limit is exceeded here: let the size of a polynomial be the sum of the absolute values of its coefficients. That of a product is at most the product of the sizes. The sizes of the elements of a letter's matrix are a symmetric matrix, which is the identity matrix but for the rows [2, 1] and [1, 0] or [0, 1] and [1, 2], so that it makes no vector longer than 1 + sqrt 2 times its length. So the sizes of the products that add up to an element of a Burau matrix amount to at most (1 + sqrt 2)^MaxAlexander, which is less than 4.6e7. The minors of a letter's matrix form matrices of the same kind, so that this is a bound for the minors of a Burau matrix, too. A letter moves the exponents by at most 1, so that those of an element are from -MaxAlexander to MaxAlexander.

// burau returns the Burau matrix of a word of up to MaxAlexander letters. These can be more than braid.Burau accepts, but half of them are not.
func burau(n int, w []int) [][]api.Poly {
	half := len(w) / 2
	first, _ := braid.Burau(n, w[:half])
	second, _ := braid.Burau(n, w[half:])
	rows := make([][]api.Poly, n)
	for i := range rows {
		for k := range n {
			rows[i] = append(rows[i], rowTimesColumn(first[i], second, k))
		}
	}
	return rows
}

// rowTimesColumn returns the product of a row and a column of a matrix.
func rowTimesColumn(row []api.Poly, m [][]api.Poly, column int) api.Poly {
	var sum api.Poly
	for i, p := range row {
		product, _ := laurent.Mul(p, m[i][column])
		sum, _ = laurent.Add(sum, product)
	}
	return sum
}

// identityMinus returns the identity matrix minus the first rows and columns of a matrix.
func identityMinus(m [][]api.Poly, side int) [][]api.Poly {
	rows := make([][]api.Poly, side)
	for i := range rows {
		for k := range side {
			var identity api.Poly
			if i == k {
				identity.C = []int{1}
			}
			p, _ := laurent.Sub(identity, m[i][k])
			rows[i] = append(rows[i], p)
		}
	}
	return rows
}

// determinant returns the determinant of what identityMinus returns. (Package polymatrix has narrower limits.)
func determinant(m [][]api.Poly) api.Poly {
	var columns []int
	for i := range m {
		columns = append(columns, i)
	}
	var det api.Poly
	for i, x := range expand(m, columns) {
		if x != 0 {
			// The coefficients stay within MaxCoeff: by Kauffman's theorem, the determinant is a sum of powers of t and their negatives, one for each spanning tree of a graph with at most MaxAlexander edges. All these trees have the same number of edges, so there are at most 20! / (10! 10!) = 184756.
			det, _ = laurent.Add(det, api.Poly{Low: i - len(m)*api.MaxAlexander, C: []int{x}})
		}
	}
	return det
}

// expand returns the determinant of the given rows and columns, expanded along the first row: its coefficients from the lowest exponent on that a product of so many elements can have.
func expand(rows [][]api.Poly, columns []int) []int {
	if len(rows) == 0 {
		return []int{1}
	}
	// A minor with k rows is a sum of up to 2^k minors of a Burau matrix and their negatives. So a coefficient here is at most 5 4.6e7 2^4 4.6e7 = 1.7e17, which fits in 64 bits. It can exceed the limits of package laurent.
	sum := make([]int, 2*api.MaxAlexander*len(rows)+1)
	sign := 1
	for i, column := range columns {
		others := slices.Delete(slices.Clone(columns), i, i+1)
		addProduct(sum, sign, rows[0][column], expand(rows[1:], others))
		sign = -sign
	}
	return sum
}

// addProduct adds sign p minor.
func addProduct(sum []int, sign int, p api.Poly, minor []int) {
	for i, x := range p.C {
		for k, y := range minor {
			sum[api.MaxAlexander+p.Low+i+k] += sign * x * y
		}
	}
}
