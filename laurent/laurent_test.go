package laurent

import (
	"fmt"
	"maps"
	"math"
	"slices"
	"testing"

	"timbrel/api"
)

// poly returns the polynomial with the given coefficients.
func poly(low int, c ...int) api.Poly {
	return api.Poly{Low: low, C: c}
}

// long returns a polynomial with n coefficients x.
func long(low, n, x int) api.Poly {
	return poly(low, slices.Repeat([]int{x}, n)...)
}

// wide returns a polynomial with n coefficients, the first one x, the last one y and the others 0.
func wide(low, n, x, y int) api.Poly {
	p := long(low, n, 0)
	p.C[0], p.C[n-1] = x, y
	return p
}

func same(a, b api.Poly) bool {
	return a.Low == b.Low && slices.Equal(a.C, b.C)
}

// terms is a polynomial as a map from exponents to coefficients.
type terms map[int]int

func termsOf(p api.Poly) terms {
	m := terms{}
	for i, x := range p.C {
		m[p.Low+i] = x
	}
	return m
}

// result returns what a function returns whose result has the given terms.
func (m terms) result() (api.Poly, api.Errno) {
	maps.DeleteFunc(m, func(_, x int) bool { return x == 0 })
	if len(m) == 0 {
		return api.Poly{}, api.OK
	}
	exponents := slices.Sorted(maps.Keys(m))
	low, high := exponents[0], exponents[len(exponents)-1]
	if low < -1000 || low > 1000 || high-low >= 200 {
		return api.Poly{}, api.ErrTooLarge
	}
	p := poly(low)
	for k := low; k <= high; k++ {
		if m[k] < -100000000 || m[k] > 100000000 {
			return api.Poly{}, api.ErrTooLarge
		}
		p.C = append(p.C, m[k])
	}
	return p, api.OK
}

// plainSum returns the terms of a + factor b.
func plainSum(a, b api.Poly, factor int) terms {
	m := termsOf(a)
	for k, x := range termsOf(b) {
		m[k] += factor * x
	}
	return m
}

func plainProduct(a, b api.Poly) terms {
	m := terms{}
	for i, x := range a.C {
		for j, y := range b.C {
			m[a.Low+b.Low+i+j] += x * y
		}
	}
	return m
}

// lists returns all lists of up to n numbers from -bound to bound that neither begin nor end with 0.
func lists(n, bound int) [][]int {
	all := [][]int{nil}
	for begin := 0; n > 0; n-- {
		stop := len(all)
		for _, l := range all[begin:stop] {
			for x := -bound; x <= bound; x++ {
				all = append(all, append(slices.Clone(l), x))
			}
		}
		begin = stop
	}
	return slices.DeleteFunc(all, func(l []int) bool { return len(l) > 0 && (l[0] == 0 || l[len(l)-1] == 0) })
}

// source is a sequence of numbers that look random and are always the same.
type source uint64

func (s *source) below(n int) int {
	*s = *s*6364136223846793005 + 1442695040888963407
	return int(uint64(*s) >> 33 % uint64(n))
}

// poly returns a polynomial with n coefficients from -bound to bound.
func (s *source) poly(low, n, bound int) api.Poly {
	p := poly(low)
	for range n {
		p.C = append(p.C, s.below(2*bound+1)-bound)
	}
	for _, i := range []int{0, n - 1} {
		if p.C[i] == 0 {
			p.C[i] = 1
		}
	}
	return p
}

// samples returns polynomials of many kinds: small and long ones, and some at the limits.
func samples() []api.Poly {
	all := []api.Poly{
		{},
		poly(1000, 1), poly(1000, 1, 1), poly(999, -1, 1), poly(-1000, 1), poly(-1000, 1, 1), poly(-999, 2), poly(500, 7), poly(-500, -7),
		poly(0, 100000000), poly(0, -100000000), poly(3, 50000000, -50000000), poly(-4, 50000001, 1), poly(2, 65536), poly(-2, 1, 10000), poly(1, -10000, 1),
		long(0, 200, 1), long(0, 200, -1), long(-1000, 200, 1), long(1000, 200, 1), long(100, 200, 1), long(0, 100, 1), long(5, 101, -1),
		long(0, 200, 100000000), long(0, 200, -100000000), wide(-100, 200, 3, 1),
	}
	for i, c := range lists(3, 1) {
		if len(c) > 0 {
			all = append(all, poly(i%5-2, c...))
		}
	}
	var s source
	for _, n := range []int{1, 2, 3, 5, 10, 50, 99, 100, 101, 150, 200} {
		all = append(all, s.poly(s.below(2001)-1000, n, 3), s.poly(s.below(21)-10, n, 1000), s.poly(0, n, 10000), s.poly(s.below(21)-10, n, 1))
	}
	return all
}

var checkCases = []struct {
	p    api.Poly
	want api.Errno
}{
	{api.Poly{}, api.OK},
	{api.Poly{C: []int{}}, api.OK},
	{poly(0, 1), api.OK},
	{poly(0, -1), api.OK},
	{poly(-3, 1, 0, 0, -1), api.OK},
	{poly(1000, 1), api.OK},
	{poly(-1000, 1), api.OK},
	{long(0, 200, 1), api.OK},
	{long(1000, 200, 1), api.OK},
	{long(-1000, 200, 100000000), api.OK},
	{poly(0, 100000000, -100000000, 100000000), api.OK},
	{poly(0, -100000000), api.OK},

	{long(0, 201, 1), api.ErrTooLarge},
	{long(-1000, 201, 1), api.ErrTooLarge},
	{long(0, 100000, 1), api.ErrTooLarge},
	{poly(1001, 1), api.ErrTooLarge},
	{poly(-1001, 1), api.ErrTooLarge},
	{poly(1<<32, 1), api.ErrTooLarge},
	{poly(math.MinInt, 1), api.ErrTooLarge},
	{poly(math.MaxInt, 1, 1), api.ErrTooLarge},

	{poly(0, 0), api.ErrMalformed},
	{poly(0, 0, 1), api.ErrMalformed},
	{poly(0, 1, 0), api.ErrMalformed},
	{poly(0, 0, 1, 0), api.ErrMalformed},
	{poly(5, 0, 0), api.ErrMalformed},
	{long(0, 200, 0), api.ErrMalformed},
	{poly(1), api.ErrMalformed},
	{poly(-1), api.ErrMalformed},
	{poly(1000), api.ErrMalformed},
	{poly(-1000, []int{}...), api.ErrMalformed},

	{poly(0, 100000001), api.ErrArgument},
	{poly(0, -100000001), api.ErrArgument},
	{poly(0, 1, 100000001, 1), api.ErrArgument},
	{poly(0, 1, -100000001), api.ErrArgument},
	{poly(0, math.MinInt), api.ErrArgument},
	{poly(0, 1, math.MinInt, 1), api.ErrArgument},
	{poly(0, math.MaxInt), api.ErrArgument},
	{poly(0, 1<<32), api.ErrArgument},
	{poly(0, 1, 1<<32, 1), api.ErrArgument},
	{long(1000, 200, 100000001), api.ErrArgument},

	// Several errors: the limits of the exponents come first, those of the coefficients last.
	{long(0, 201, 0), api.ErrTooLarge},
	{long(0, 201, 100000001), api.ErrTooLarge},
	{poly(1001), api.ErrTooLarge},
	{poly(-1001), api.ErrTooLarge},
	{poly(math.MinInt), api.ErrTooLarge},
	{poly(math.MaxInt), api.ErrTooLarge},
	{poly(1001, 0, 1), api.ErrTooLarge},
	{poly(-1001, 100000001), api.ErrTooLarge},
	{poly(0, 0, 100000001), api.ErrMalformed},
	{poly(0, 100000001, 0), api.ErrMalformed},
	{poly(0, 0, math.MinInt, 1), api.ErrMalformed},
}

// P5.1: Check.
func TestCheck(t *testing.T) {
	for _, c := range checkCases {
		if e := Check(c.p); e != c.want {
			t.Errorf("Check(%v) = %d, want %d", c.p, e, c.want)
		}
	}
	for _, p := range samples() {
		if e := Check(p); e != api.OK {
			t.Errorf("Check(%v) = %d", p, e)
		}
	}
}

// P5.1: the functions of one polynomial first return the error of Check.
func TestErrorOfCheckComesFirst(t *testing.T) {
	for _, c := range checkCases {
		if c.want == api.OK {
			continue
		}
		_, conjugateError := Conjugate(c.p)
		_, normalizeError := Normalize(c.p)
		got := []api.Errno{conjugateError, normalizeError}
		for _, x := range []int{-1, 0, 1, 2} {
			_, e := Eval(c.p, x)
			got = append(got, e)
		}
		if slices.ContainsFunc(got, func(e api.Errno) bool { return e != c.want }) {
			t.Errorf("%v: errors %v, want %d", c.p, got, c.want)
		}
	}
}

// P5.1: the functions of two polynomials return the error of Check for a, then for b, before all others.
func TestErrorsOfTwoPolynomials(t *testing.T) {
	for _, a := range checkCases {
		for _, b := range checkCases {
			want := a.want
			if want == api.OK {
				want = b.want
			}
			if want == api.OK {
				continue
			}
			_, addError := Add(a.p, b.p)
			_, subError := Sub(a.p, b.p)
			_, mulError := Mul(a.p, b.p)
			_, divError := Div(a.p, b.p)
			got := []api.Errno{addError, subError, mulError, divError}
			if slices.ContainsFunc(got, func(e api.Errno) bool { return e != want }) {
				t.Errorf("%v, %v: errors %v, want %d", a.p, b.p, got, want)
			}
		}
	}
}

// binaryCase is a call of Add, Sub, Mul or Div.
type binaryCase struct {
	a, b, want api.Poly
	e          api.Errno
}

func testBinary(t *testing.T, name string, f func(a, b api.Poly) (api.Poly, api.Errno), cases []binaryCase) {
	t.Helper()
	for _, c := range cases {
		if p, e := f(c.a, c.b); !same(p, c.want) || e != c.e {
			t.Errorf("%s(%v, %v) = %v, %d, want %v, %d", name, c.a, c.b, p, e, c.want, c.e)
		}
	}
}

// P5.2: Add.
func TestAdd(t *testing.T) {
	testBinary(t, "Add", Add, []binaryCase{
		{poly(0, 1, 1), poly(0, 1, -1), poly(0, 2), api.OK},
		{poly(0, 1, 1), poly(0, -1, 1), poly(1, 2), api.OK},
		{poly(-2, 1), poly(2, 3), poly(-2, 1, 0, 0, 0, 3), api.OK},
		{poly(2, 3), poly(-2, 1), poly(-2, 1, 0, 0, 0, 3), api.OK},
		{poly(1, 1, 2, 3), poly(0, 5, 0, -2), poly(0, 5, 1, 0, 3), api.OK},
		{poly(0, 1, 2, 1), poly(1, -2), poly(0, 1, 0, 1), api.OK},
		{poly(-7, 1, 2, 3), poly(-7, -1, -2, -3), poly(0), api.OK},
		{poly(-7, 1, 2, 3, 4, 5), poly(-7, -1, -2, 3, -4, -5), poly(-5, 6), api.OK},
		{poly(0), poly(0), poly(0), api.OK},
		{poly(0), poly(1000, 4), poly(1000, 4), api.OK},
		{poly(-1000, 4), poly(0), poly(-1000, 4), api.OK},

		// Limits of the result.
		{poly(0, 1), poly(199, 1), wide(0, 200, 1, 1), api.OK},
		{poly(0, 1), poly(200, 1), poly(0), api.ErrTooLarge},
		{poly(-1000, 1), poly(1000, 1), poly(0), api.ErrTooLarge},
		{long(0, 200, 1), long(1, 200, 1), poly(0), api.ErrTooLarge},
		{long(0, 200, 1), long(0, 199, -1), poly(199, 1), api.OK},
		{poly(0, 99999999), poly(0, 1), poly(0, 100000000), api.OK},
		{poly(0, 100000000), poly(0, 1), poly(0), api.ErrTooLarge},
		{poly(0, -100000000), poly(0, -1), poly(0), api.ErrTooLarge},
		{poly(0, 1, 100000000, 1), poly(1, 1), poly(0), api.ErrTooLarge},
		{poly(1000, 1, 1), poly(1000, -1), poly(0), api.ErrTooLarge},
		{poly(-1000, 1, 1), poly(-1000, -1), poly(-999, 1), api.OK},
		{poly(1000, 1, 1), poly(1000, -1, -1), poly(0), api.OK},
	})
}

// P5.2: Sub.
func TestSub(t *testing.T) {
	testBinary(t, "Sub", Sub, []binaryCase{
		{poly(0, 1, 1), poly(0, 1, -1), poly(1, 2), api.OK},
		{poly(0, 1, -1), poly(0, 1, 1), poly(1, -2), api.OK},
		{poly(-2, 1), poly(2, 3), poly(-2, 1, 0, 0, 0, -3), api.OK},
		{poly(2, 3), poly(-2, 1), poly(-2, -1, 0, 0, 0, 3), api.OK},
		{poly(3, 4, 5), poly(3, 4, 5), poly(0), api.OK},
		{poly(0), poly(-2, 1, -6), poly(-2, -1, 6), api.OK},
		{poly(-2, 1, -6), poly(0), poly(-2, 1, -6), api.OK},
		{poly(0), poly(0), poly(0), api.OK},
		{poly(0), poly(0, 100000000), poly(0, -100000000), api.OK},

		// Limits of the result.
		{poly(0, 1), poly(0, -100000000), poly(0), api.ErrTooLarge},
		{poly(0, -1), poly(0, 100000000), poly(0), api.ErrTooLarge},
		{poly(0, 1), poly(0, -99999999), poly(0, 100000000), api.OK},
		{poly(0, 1), poly(200, 1), poly(0), api.ErrTooLarge},
		{poly(1000, 1, 1), poly(1000, 1), poly(0), api.ErrTooLarge},
		{poly(1000, 1, 1), poly(1000, 2), poly(1000, -1, 1), api.OK},
	})
}

// P5.2: Mul.
func TestMul(t *testing.T) {
	testBinary(t, "Mul", Mul, []binaryCase{
		{poly(0, 1, 1), poly(0, 1, -1), poly(0, 1, 0, -1), api.OK},
		{poly(0, 1, 2), poly(0, 3, 4), poly(0, 3, 10, 8), api.OK},
		{poly(-3, 1, 2), poly(5, 3, 4), poly(2, 3, 10, 8), api.OK},
		{poly(-3, 2), poly(-4, -7), poly(-7, -14), api.OK},
		{poly(0, 1, 1, 1), poly(-1, 1, -1), poly(-1, 1, 0, 0, -1), api.OK},
		{poly(0), poly(0), poly(0), api.OK},
		{poly(0), poly(1000, 5, 6), poly(0), api.OK},
		{poly(-1000, 5, 6), poly(0), poly(0), api.OK},
		{poly(0, 1), poly(-9, 5, 6), poly(-9, 5, 6), api.OK},

		// Limits of the result.
		{poly(500, 1), poly(500, 1), poly(1000, 1), api.OK},
		{poly(500, 1), poly(501, 1), poly(0), api.ErrTooLarge},
		{poly(-500, 1), poly(-500, 1), poly(-1000, 1), api.OK},
		{poly(-501, 1), poly(-500, 1), poly(0), api.ErrTooLarge},
		{poly(1000, 1), poly(-1000, 1), poly(0, 1), api.OK},
		{long(0, 200, 1), poly(0, -1), long(0, 200, -1), api.OK},
		{long(0, 200, 1), poly(0, 1, 1), poly(0), api.ErrTooLarge},
		{long(0, 200, 1), poly(0, -1, 1), poly(0), api.ErrTooLarge},
		{long(0, 199, 1), poly(0, -1, 1), wide(0, 200, -1, 1), api.OK},
		{poly(0, 10000), poly(0, 10000), poly(0, 100000000), api.OK},
		{poly(0, 10000), poly(0, -10000), poly(0, -100000000), api.OK},
		{poly(0, 10001), poly(0, 10000), poly(0), api.ErrTooLarge},
		{poly(0, 10001), poly(0, -10000), poly(0), api.ErrTooLarge},
		{poly(0, 65536), poly(0, 65536), poly(0), api.ErrTooLarge},
		{poly(0, 1, 1<<20, 1), poly(0, 1, 1<<20, 1), poly(0), api.ErrTooLarge},
		{poly(0, 1, 60000000), poly(0, 1, 60000000), poly(0), api.ErrTooLarge},
		{poly(0, 1, 60000000), poly(0, 60000000, 1), poly(0), api.ErrTooLarge},
		{long(0, 100, 100000000), long(0, 100, 100000000), poly(0), api.ErrTooLarge},
		{long(0, 200, 100000000), long(0, 200, 100000000), poly(0), api.ErrTooLarge},
		{long(0, 100, 1000000), long(0, 100, 1), poly(0, tent(100, 1000000)...), api.OK},
		{long(0, 100, 1000000), long(0, 101, 1), poly(0, plateau(100, 1000000)...), api.OK},
		{long(0, 100, 1000001), long(0, 100, 1), poly(0), api.ErrTooLarge},
	})
}

// tent returns the multiples of x from 1 to n and back to 1.
func tent(n, x int) []int {
	var l []int
	for i := 1; i < 2*n; i++ {
		l = append(l, x*min(i, 2*n-i))
	}
	return l
}

// plateau returns a tent whose greatest element occurs twice.
func plateau(n, x int) []int {
	l := tent(n, x)
	return slices.Insert(l, n, l[n-1])
}

// P5.2: the coefficients of sums, differences and products, term by term.
func TestOperationsFollowTheDefinition(t *testing.T) {
	check := func(name string, a, b, got api.Poly, e api.Errno, m terms) {
		if want, wantError := m.result(); !same(got, want) || e != wantError {
			t.Errorf("%s(%v, %v) = %v, %d, want %v, %d", name, a, b, got, e, want, wantError)
		}
	}
	all := samples()
	for _, a := range all {
		for _, b := range all {
			sum, e := Add(a, b)
			check("Add", a, b, sum, e, plainSum(a, b, 1))
			difference, e := Sub(a, b)
			check("Sub", a, b, difference, e, plainSum(a, b, -1))
			product, e := Mul(a, b)
			check("Mul", a, b, product, e, plainProduct(a, b))
		}
	}
}

// P5.3: Div.
func TestDiv(t *testing.T) {
	testBinary(t, "Div", Div, []binaryCase{
		{poly(0, 1, 0, -1), poly(0, 1, -1), poly(0, 1, 1), api.OK},
		{poly(-3, 1, 0, -1), poly(0, 1, -1), poly(-3, 1, 1), api.OK},
		{poly(0, 1, 0, -1), poly(5, 1, -1), poly(-5, 1, 1), api.OK},
		{poly(0, 6, 5, 1), poly(0, 3, 1), poly(0, 2, 1), api.OK},
		{poly(0, 6, 5, 1), poly(0, -3, -1), poly(0, -2, -1), api.OK},
		{poly(2, 5, 6), poly(7, -1), poly(-5, -5, -6), api.OK},
		{poly(0, 1, 0, 0, 1), poly(0, 1, 1), poly(0, 1, -1, 1), api.OK},
		{poly(0), poly(0, 1), poly(0), api.OK},
		{poly(0), poly(-7, 3, 2, 1), poly(0), api.OK},
		{poly(4, 7, 1), poly(4, 7, 1), poly(0, 1), api.OK},
		{long(0, 200, 1), long(0, 200, 1), poly(0, 1), api.OK},
		{long(-1000, 200, 1), long(-1000, 100, 1), wide(0, 101, 1, 1), api.OK},
		{long(1000, 200, 100000000), poly(0, -1), long(1000, 200, -100000000), api.OK},

		{poly(0, 1, 1), poly(0), poly(0), api.ErrZero},
		{poly(0), poly(0), poly(0), api.ErrZero},
		{poly(0, 1, 1), poly(0, 2), poly(0), api.ErrMalformed},
		{poly(0, 2, 2), poly(0, 2), poly(0), api.ErrMalformed},
		{poly(0, 2, 2), poly(0, -2), poly(0), api.ErrMalformed},
		{poly(0, 3, 10, 8), poly(0, 3, 4), poly(0), api.ErrMalformed},
		{poly(0), poly(0, 1, 2), poly(0), api.ErrMalformed},
		{poly(0, 1), poly(0, 1, 2), poly(0), api.ErrMalformed},
		{poly(2, 100000000), poly(0, 1, 100000000), poly(0), api.ErrMalformed},

		{poly(0, 1, 1), poly(0, 1, -1), poly(0), api.ErrRemainder},
		{poly(0, 1), poly(0, 1, 1), poly(0), api.ErrRemainder},
		{poly(0, 1, 2), poly(0, 1, 1, 1), poly(0), api.ErrRemainder},
		{poly(5, 1, 1), long(-5, 200, 1), poly(0), api.ErrRemainder},
		{poly(0, 1, 0, 1), poly(0, 1, 1), poly(0), api.ErrRemainder},
		{poly(0, 7, 5, 1), poly(0, 3, 1), poly(0), api.ErrRemainder},
		{poly(0, 3, 1), poly(0, 1, 1), poly(0), api.ErrRemainder},
	})
}

// P5.3: limits of quotients.
func TestLimitsOfDiv(t *testing.T) {
	const m = 100000000
	testBinary(t, "Div", Div, []binaryCase{
		// The exponents of the quotient.
		{poly(1000, 1), poly(1000, 1), poly(0, 1), api.OK},
		{poly(-1000, 1), poly(-1000, -1), poly(0, -1), api.OK},
		{poly(500, 1), poly(-500, 1), poly(1000, 1), api.OK},
		{poly(500, 1), poly(-501, 1), poly(0), api.ErrTooLarge},
		{poly(-500, 1), poly(500, 1), poly(-1000, 1), api.OK},
		{poly(-500, 1), poly(501, 1), poly(0), api.ErrTooLarge},
		{poly(1000, 1), poly(-1000, 1), poly(0), api.ErrTooLarge},
		{poly(-1000, 1, 0, -1), poly(1000, 1, 1), poly(0), api.ErrTooLarge},
		{poly(0), poly(1000, 1), poly(0), api.OK},
		// Without a quotient, there are no exponents that could exceed a limit.
		{poly(1000, 1, 1), poly(-1000, 1, -1), poly(0), api.ErrRemainder},
		{poly(-1000, 1), poly(1000, 1, 1), poly(0), api.ErrRemainder},

		// A coefficient of a quotient that exists: 1 + t - t^2 - t^3 divided by 1 - t is 1 + 2 t + t^2.
		{poly(0, m/2, m/2, -m/2, -m/2), poly(0, 1, -1), poly(0, m/2, m, m/2), api.OK},
		{poly(0, m/2+1, m/2+1, -m/2-1, -m/2-1), poly(0, 1, -1), poly(0), api.ErrTooLarge},
		{poly(0, -m/2-1, -m/2-1, m/2+1, m/2+1), poly(0, 1, -1), poly(0), api.ErrTooLarge},
		{poly(0, m, m, -m, -m), poly(0, 1, -1), poly(0), api.ErrTooLarge},

		// A coefficient that the division determines before it leaves a remainder.
		{poly(0, 1, 0, m), poly(0, -2, 1), poly(0), api.ErrTooLarge},
		{poly(0, 1, 0, -m), poly(0, -2, 1), poly(0), api.ErrTooLarge},
		{poly(0, 1, 0, m), poly(0, -m, 1), poly(0), api.ErrTooLarge},
		{poly(0, 1, 0, m/2), poly(0, -2, 1), poly(0), api.ErrRemainder},
		{poly(0, 1, 0, m/2+1), poly(0, -2, 1), poly(0), api.ErrTooLarge},
		{poly(7, 1, 0, 0, 0, m), poly(-9, -2, 0, 1), poly(0), api.ErrTooLarge},
		{poly(7, 1, 0, 0, 0, m/2), poly(-9, -2, 0, 1), poly(0), api.ErrRemainder},
		// The division would determine a coefficient that is too large, but below the exponents of a quotient.
		{poly(1, m), poly(0, -2, 1), poly(0), api.ErrRemainder},
		{poly(0, 1, m), poly(0, -2, 1), poly(0), api.ErrRemainder},
		{poly(7, 1, 0, 0, m), poly(-9, -2, 0, 1), poly(0), api.ErrRemainder},
		{poly(0, 1, 0, 0, m), poly(0, -2, 1, 0, 1), poly(0), api.ErrRemainder},
		// Coefficients that grow beyond 64 bits if the division goes on.
		{long(0, 200, m), poly(0, -m, m, -m, 1), poly(0), api.ErrTooLarge},
		{long(0, 200, 1), poly(0, -m, 1), poly(0), api.ErrTooLarge},
		{long(0, 199, m), poly(0, append(slices.Repeat([]int{-m}, 99), 1)...), poly(0), api.ErrTooLarge},
	})
}

// P5.3: Div undoes Mul.
func TestDivUndoesMul(t *testing.T) {
	divisors := []api.Poly{poly(0, 1), poly(-4, -1), poly(0, 1, 1), poly(3, 1, -1), poly(-1, 2, 1), poly(0, -3, 0, -1), poly(2, 5, 0, -7, 1), long(-6, 20, 1), long(9, 60, -1)}
	n := 0
	for _, q := range samples() {
		for _, b := range divisors {
			a, e := Mul(q, b)
			if e != api.OK {
				continue
			}
			n++
			if p, e := Div(a, b); !same(p, q) || e != api.OK {
				t.Errorf("Div(%v, %v) = %v, %d, want %v", a, b, p, e, q)
			}
		}
	}
	if n < 400 {
		t.Errorf("only %d quotients", n)
	}
}

// P5.3: Div finds the quotient if there is one, and ErrRemainder otherwise.
func TestDivFollowsTheDefinition(t *testing.T) {
	dividends := lists(4, 1)
	// The division of a list of up to 4 such numbers by up to 3 of them determines numbers from -3 to 3.
	quotients := lists(4, 3)
	for _, b := range lists(3, 1) {
		if len(b) == 0 {
			continue
		}
		found := map[string]api.Poly{}
		for _, q := range quotients {
			product, _ := plainProduct(poly(0, q...), poly(0, b...)).result()
			found[fmt.Sprint(product.C)] = poly(0, q...)
		}
		for _, a := range dividends {
			want, ok := found[fmt.Sprint(a)]
			wantError := api.ErrRemainder
			if ok {
				wantError = api.OK
			}
			if q, e := Div(poly(0, a...), poly(0, b...)); !same(q, want) || e != wantError {
				t.Errorf("Div(%v, %v) = %v, %d, want %v, %d", a, b, q, e, want, wantError)
			}
		}
	}
}

// P5.4: Eval.
func TestEval(t *testing.T) {
	for _, c := range []struct {
		p       api.Poly
		x, want int
		e       api.Errno
	}{
		{poly(0), 1, 0, api.OK},
		{poly(0), -1, 0, api.OK},
		{poly(0, 7), -1, 7, api.OK},
		{poly(-1, 2, 0, 3), 1, 5, api.OK},
		{poly(-1, 2, 0, 3), -1, -5, api.OK},
		{poly(-2, 2, 0, 3), -1, 5, api.OK},
		{poly(-3, 1, 10, 100), -1, -91, api.OK},
		{poly(-3, 1, 10, 100), 1, 111, api.OK},
		{poly(3, 1, 10, 100), -1, -91, api.OK},
		{poly(4, 1, 10, 100, 1000), -1, -909, api.OK},
		{poly(1000, 3), -1, 3, api.OK},
		{poly(999, 3), -1, -3, api.OK},
		{poly(-999, 3), -1, -3, api.OK},
		{poly(0, 1, 1), -1, 0, api.OK},
		{long(0, 200, 100000000), 1, 20000000000, api.OK},
		{long(0, 200, -100000000), 1, -20000000000, api.OK},
		{long(0, 200, 100000000), -1, 0, api.OK},
		{long(-1, 199, 100000000), -1, -100000000, api.OK},
		{poly(0, 1, 1), 0, 0, api.ErrArgument},
		{poly(0, 1, 1), 2, 0, api.ErrArgument},
		{poly(0, 1, 1), -2, 0, api.ErrArgument},
		{poly(0, 1, 1), 1<<32 + 1, 0, api.ErrArgument},
		{poly(0, 1, 1), math.MinInt, 0, api.ErrArgument},
		{poly(0, 1, 1), math.MaxInt, 0, api.ErrArgument},
		{poly(0), 0, 0, api.ErrArgument},
	} {
		if n, e := Eval(c.p, c.x); n != c.want || e != c.e {
			t.Errorf("Eval(%v, %d) = %d, %d, want %d, %d", c.p, c.x, n, e, c.want, c.e)
		}
	}
}

// P5.4: the value is the sum of the values of the terms.
func TestEvalFollowsTheDefinition(t *testing.T) {
	for _, p := range samples() {
		for _, x := range []int{1, -1} {
			want := 0
			for k, c := range termsOf(p) {
				want += c * int(math.Pow(float64(x), float64(k)))
			}
			if n, e := Eval(p, x); n != want || e != api.OK {
				t.Errorf("Eval(%v, %d) = %d, %d, want %d", p, x, n, e, want)
			}
		}
	}
}

// unaryCase is a call of Conjugate or Normalize.
type unaryCase struct {
	p, want api.Poly
	e       api.Errno
}

func testUnary(t *testing.T, name string, f func(p api.Poly) (api.Poly, api.Errno), cases []unaryCase) {
	t.Helper()
	for _, c := range cases {
		if p, e := f(c.p); !same(p, c.want) || e != c.e {
			t.Errorf("%s(%v) = %v, %d, want %v, %d", name, c.p, p, e, c.want, c.e)
		}
	}
}

// P5.4: Conjugate.
func TestConjugate(t *testing.T) {
	testUnary(t, "Conjugate", Conjugate, []unaryCase{
		{poly(1, 2, 0, 1), poly(-3, 1, 0, 2), api.OK},
		{poly(-3, 1, 0, 2), poly(1, 2, 0, 1), api.OK},
		{poly(-1, 1, 2, 3), poly(-1, 3, 2, 1), api.OK},
		{poly(0, 5), poly(0, 5), api.OK},
		{poly(0), poly(0), api.OK},
		{poly(4, -100000000), poly(-4, -100000000), api.OK},

		// Limits of the result.
		{poly(1000, 3), poly(-1000, 3), api.OK},
		{poly(1000, 3, 4), poly(0), api.ErrTooLarge},
		{poly(999, 3, 4), poly(-1000, 4, 3), api.OK},
		{poly(-1000, 3), poly(1000, 3), api.OK},
		{poly(-1000, 3, 4), poly(999, 4, 3), api.OK},
		{long(801, 200, 2), long(-1000, 200, 2), api.OK},
		{long(802, 200, 2), poly(0), api.ErrTooLarge},
		{long(1000, 200, 2), poly(0), api.ErrTooLarge},
		{long(-1000, 200, 2), long(801, 200, 2), api.OK},
	})
}

// P5.4: the coefficient of each exponent becomes that of its negative.
func TestConjugateFollowsTheDefinition(t *testing.T) {
	for _, p := range samples() {
		m := terms{}
		for k, x := range termsOf(p) {
			m[-k] = x
		}
		want, wantError := m.result()
		if got, e := Conjugate(p); !same(got, want) || e != wantError {
			t.Errorf("Conjugate(%v) = %v, %d, want %v, %d", p, got, e, want, wantError)
		}
	}
}

// P5.5: Normalize.
func TestNormalize(t *testing.T) {
	testUnary(t, "Normalize", Normalize, []unaryCase{
		{poly(4, 1, -2), poly(0, -1, 2), api.OK},
		{poly(4, 1, 2), poly(0, 1, 2), api.OK},
		{poly(-4, -1, 2), poly(0, -1, 2), api.OK},
		{poly(-4, -1, 0, -2), poly(0, 1, 0, 2), api.OK},
		{poly(0, -7), poly(0, 7), api.OK},
		{poly(0, 7), poly(0, 7), api.OK},
		{poly(0), poly(0), api.OK},
		{poly(1000, 1), poly(0, 1), api.OK},
		{poly(-1000, -1), poly(0, 1), api.OK},
		{poly(3, -100000000), poly(0, 100000000), api.OK},
		{poly(3, 100000000, -1), poly(0, -100000000, 1), api.OK},
		{long(1000, 200, -100000000), long(0, 200, 100000000), api.OK},
		{long(-1000, 200, -1), long(0, 200, 1), api.OK},
	})
}

// P5.5: the normal form is the polynomial times a unit, begins at exponent 0, and is the same for all such multiples.
func TestNormalizeFollowsTheDefinition(t *testing.T) {
	for _, p := range samples() {
		n, e := Normalize(p)
		if len(p.C) == 0 {
			if !same(n, p) || e != api.OK {
				t.Errorf("Normalize(%v) = %v, %d", p, n, e)
			}
			continue
		}
		minus := poly(0)
		for _, x := range n.C {
			minus.C = append(minus.C, -x)
		}
		if e != api.OK || n.Low != 0 || n.C[len(n.C)-1] < 0 || !slices.Equal(n.C, p.C) && !slices.Equal(minus.C, p.C) {
			t.Errorf("Normalize(%v) = %v, %d", p, n, e)
		}
		for _, low := range []int{-1000, -1, 0, 1, 1000} {
			for _, c := range [][]int{n.C, minus.C} {
				if other, e := Normalize(poly(low, c...)); !same(other, n) || e != api.OK {
					t.Errorf("Normalize(%v) = %v, %d, want %v", poly(low, c...), other, e, n)
				}
			}
		}
	}
}
