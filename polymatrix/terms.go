package polymatrix

import (
	"slices"

	"timbrel/api"
)

// span is the difference between the highest and the lowest exponent that an element can have: they are 2 MaxTerms - 1 and -MaxTerms.
const span = 3*MaxTerms - 1

// terms holds the coefficients of a sum of products of k elements, for all k span + 1 exponents from -k MaxTerms on that such a product can have. The sums in between can exceed the limits of package laurent although the determinant does not, so its functions cannot be used for them.
type terms []int

// expand returns the determinant of the given rows and columns, expanded along the first row.
func expand(rows [][]api.Poly, columns []int) terms {
	if len(rows) == 0 {
		return terms{1}
	}
	// A coefficient is at most 4! MaxTerms^3 MaxCoeff^4 = 1.92e17, which fits in 64 bits.
	sum := make(terms, len(rows)*span+1)
	sign := 1
	for i, column := range columns {
		others := slices.Delete(slices.Clone(columns), i, i+1)
		sum.addProduct(sign, rows[0][column], expand(rows[1:], others))
		sign = -sign
	}
	return sum
}

// addProduct adds sign p minor.
func (s terms) addProduct(sign int, p api.Poly, minor terms) {
	for i, x := range p.C {
		for k, y := range minor {
			s[MaxTerms+p.Low+i+k] += sign * x * y
		}
	}
}

// poly returns the sum as a polynomial without zeros at its ends.
func (s terms) poly() api.Poly {
	isTerm := func(x int) bool { return x != 0 }
	first := slices.IndexFunc(s, isTerm)
	if first < 0 {
		return api.Poly{}
	}
	end := len(s)
	for s[end-1] == 0 {
		end--
	}
	// The length k span + 1 tells the number k of factors.
	k := len(s) / span
	return api.Poly{Low: first - k*MaxTerms, C: slices.Clone(s[first:end])}
}
