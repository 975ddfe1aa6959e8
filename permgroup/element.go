package permgroup

import "timbrel/api"

// element is a permutation in a form that can be compared and be the key of a map. Points from the degree on stay where they are.
type element [api.MaxPoints]uint8

func elementOf(p []int) element {
	e := identity()
	for i, x := range p {
		e[i] = uint8(x)
	}
	return e
}

func identity() element {
	var e element
	for i := range e {
		e[i] = uint8(i)
	}
	return e
}

// then returns the element that applies first a and then b.
func (a element) then(b element) element {
	var e element
	for i, x := range a {
		e[i] = b[x]
	}
	return e
}

func (a element) inverse() element {
	var e element
	for i, x := range a {
		e[x] = uint8(i)
	}
	return e
}
