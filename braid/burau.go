package braid

import (
	"timbrel/api"
	"timbrel/laurent"
)

// identity returns the identity matrix with n rows and columns.
func identity(n int) [][]api.Poly {
	rows := make([][]api.Poly, n)
	for i := range rows {
		rows[i] = make([]api.Poly, n)
		rows[i][i] = poly(0, 1)
	}
	return rows
}

// applyLetter multiplies a row from the right by the matrix of a letter, which changes two elements.
func applyLetter(row []api.Poly, x int) {
	i := generator(x)
	left, right := row[i-1], row[i]
	b := block(x)
	row[i-1] = sumOfProducts(left, b[0][0], right, b[1][0])
	row[i] = sumOfProducts(left, b[0][1], right, b[1][1])
}

// block returns the part of the matrix of a letter that differs from the identity matrix.
func block(x int) [2][2]api.Poly {
	if x > 0 {
		return [2][2]api.Poly{
			{poly(0, 1, -1), poly(1, 1)},
			{poly(0, 1), {}},
		}
	}
	return [2][2]api.Poly{
		{{}, poly(0, 1)},
		{poly(-1, 1), poly(-1, -1, 1)},
	}
}

// sumOfProducts returns a b + c d for elements a, c of a row and b, d of the matrix of a letter.
func sumOfProducts(a, b, c, d api.Poly) api.Poly {
	// There is no error: a letter at most triples the sum of the absolute values of all coefficients in a row and moves the exponents by at most 1. So the coefficients stay within 3^MaxBurau = 43046721, which is less than MaxCoeff, and the exponents within MaxBurau.
	ab, _ := laurent.Mul(a, b)
	cd, _ := laurent.Mul(c, d)
	sum, _ := laurent.Add(ab, cd)
	return sum
}

// poly returns the polynomial with the given coefficients from the exponent low on.
func poly(low int, c ...int) api.Poly {
	return api.Poly{Low: low, C: c}
}
