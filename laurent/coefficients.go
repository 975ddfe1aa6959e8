package laurent

import (
	"slices"

	"timbrel/api"
)

func checkBoth(a, b api.Poly) api.Errno {
	if e := Check(a); e != api.OK {
		return e
	}
	return Check(b)
}

func isTooLarge(coefficient int) bool {
	return coefficient < -api.MaxCoeff || coefficient > api.MaxCoeff
}

// endOf returns the exponent behind the last coefficient.
func endOf(p api.Poly) int {
	return p.Low + len(p.C)
}

// coefficients returns the function that gives the coefficient of each exponent.
func coefficients(p api.Poly) func(exponent int) int {
	return func(exponent int) int {
		if exponent < p.Low || exponent >= endOf(p) {
			return 0
		}
		return p.C[exponent-p.Low]
	}
}

// combine returns the polynomial each of whose coefficients is computed from those of a and b at the same exponent.
func combine(a, b api.Poly, operation func(x, y int) int) (api.Poly, api.Errno) {
	if e := checkBoth(a, b); e != api.OK {
		return api.Poly{}, e
	}
	ofA, ofB := coefficients(a), coefficients(b)
	return collect(min(a.Low, b.Low), max(endOf(a), endOf(b)), func(exponent int) int {
		return operation(ofA(exponent), ofB(exponent))
	})
}

// collect returns the polynomial with the given coefficients at the exponents from low to end - 1, and no others. Some of them may be 0, also at the ends.
func collect(low, end int, coefficient func(exponent int) int) (api.Poly, api.Errno) {
	c := make([]int, end-low)
	for i := range c {
		c[i] = coefficient(low + i)
	}
	return accepted(trimmed(low, c))
}

// trimmed returns the polynomial with the coefficients c from the exponent low on, without zeros at its ends.
func trimmed(low int, c []int) api.Poly {
	for len(c) > 0 && c[len(c)-1] == 0 {
		c = c[:len(c)-1]
	}
	for len(c) > 0 && c[0] == 0 {
		c = c[1:]
		low++
	}
	if len(c) == 0 {
		return api.Poly{}
	}
	return api.Poly{Low: low, C: c}
}

// accepted returns a result, or an error if it exceeds a limit.
func accepted(p api.Poly) (api.Poly, api.Errno) {
	if Check(p) != api.OK {
		return api.Poly{}, api.ErrTooLarge
	}
	return p, api.OK
}

// divide returns the coefficients of the quotient of two polynomials that begin at exponent 0. The last coefficient of b is 1 or -1.
func divide(a, b []int) ([]int, api.Errno) {
	lead := b[len(b)-1]
	rest := slices.Clone(a)
	q := make([]int, max(0, len(a)-len(b)+1))
	for i := range slices.Backward(q) {
		// To divide by 1 or -1 is to multiply by it.
		q[i] = rest[i+len(b)-1] * lead
		// To stop here keeps the elements of rest within MaxCoeff + MaxTerms * MaxCoeff^2, which fits in 64 bits.
		if isTooLarge(q[i]) {
			return nil, api.ErrTooLarge
		}
		for j, x := range b {
			rest[i+j] -= q[i] * x
		}
	}
	if slices.ContainsFunc(rest, func(x int) bool { return x != 0 }) {
		return nil, api.ErrRemainder
	}
	return q, api.OK
}
