package jones

import (
	"timbrel/api"
	"timbrel/laurent"
	"timbrel/temperleylieb"
)

// matching is a planar matching in a form that serves as a key: its 2n elements come first, the others are 0.
type matching [2 * api.MaxStrands]int

// combination is a sum of planar matchings with 2n points, each of them times a factor. After some letters, the factor of a matching is the sum of the weights of all choices that lead to it, each times the value of the loops on the way. So the choices need not be followed one by one.
type combination struct {
	n       int
	factors map[matching]api.Poly
}

// identity returns the combination before the first letter.
func identity(n int) combination {
	c := combination{n, map[matching]api.Poly{}}
	d, _ := temperleylieb.Identity(n)
	c.add(d, term(1, 0))
	return c
}

// add adds a matching times a factor.
func (c combination) add(d []int, factor api.Poly) {
	var key matching
	copy(key[:], d)
	c.factors[key] = plus(c.factors[key], factor)
}

// followedBy returns the combination that results if a letter follows.
func (c combination) followedBy(x int) combination {
	identityWeight, generatorWeight := weights(x)
	generator, _ := temperleylieb.Generator(c.n, max(x, -x))
	next := combination{c.n, map[matching]api.Poly{}}
	for key, factor := range c.factors {
		d := key[:2*c.n]
		next.add(d, times(factor, identityWeight))
		product, loops, _ := temperleylieb.Product(c.n, d, generator)
		next.add(product, times(times(factor, generatorWeight), valueOf(loops)))
	}
	return next
}

// closed returns the sum of the factors, each times the value of all loops but one that its matching has when it is closed.
func (c combination) closed() api.Poly {
	var sum api.Poly
	for key, factor := range c.factors {
		loops, _ := temperleylieb.Closure(c.n, key[:2*c.n])
		sum = plus(sum, times(factor, valueOf(loops-1)))
	}
	return sum
}

// weights returns the weights of the identity and of the generator as the choice for a letter.
func weights(x int) (api.Poly, api.Poly) {
	if x > 0 {
		return term(1, 1), term(1, -1)
	}
	return term(1, -1), term(1, 1)
}

// valueOf returns the value of some loops: -A^2 - A^-2 for each.
func valueOf(loops int) api.Poly {
	value := term(1, 0)
	for range loops {
		value = times(value, api.Poly{Low: -2, C: []int{-1, 0, 0, 0, -1}})
	}
	return value
}

// term returns a power of A times a coefficient other than 0.
func term(coefficient, exponent int) api.Poly {
	return api.Poly{Low: exponent, C: []int{coefficient}}
}

// plus returns a + b, which is within the limits here, as is each product: a letter closes at most one loop, so that it at most triples the sum of the absolute values of all coefficients and moves the exponents by at most 3. The n loops at the end make this at most 3^MaxBracket * 2^(MaxStrands-1) = 17006112, which is less than MaxCoeff, with exponents of at most 46.
func plus(a, b api.Poly) api.Poly {
	sum, _ := laurent.Add(a, b)
	return sum
}

// times returns a b.
func times(a, b api.Poly) api.Poly {
	product, _ := laurent.Mul(a, b)
	return product
}
