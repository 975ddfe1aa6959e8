package permgroup

import "timbrel/api"

// chain describes a group without listing its elements. Level i has one entry for each point to which some element that fixes the points before i maps i: the inverse of such an element. Each element of the group is the product of one such element of each level, the last level first, in exactly one way.
type chain [api.MaxPoints]map[uint8]element

func chainOf(generators [][]int) chain {
	var c chain
	for i := range c {
		c[i] = map[uint8]element{uint8(i): identity()}
	}
	var entries []element
	add := func(p element) {
		if rest, level := c.strip(p); rest != identity() {
			c[level][rest[level]] = rest.inverse()
			entries = append(entries, rest)
		}
	}
	for _, g := range generators {
		add(elementOf(g))
	}
	// The chain describes a group as soon as it contains all products of two entries. There are at most 36 entries (as many as pairs of points), so the loop ends although it adds some.
	for i := 0; i < len(entries); i++ {
		for j := range i + 1 {
			add(entries[i].then(entries[j]))
			add(entries[j].then(entries[i]))
		}
	}
	return c
}

// strip undoes what p does to the points in turn, up to a level that has no entry for it. It returns what is left, and that level. What is left of an element that the chain contains is the identity.
func (c chain) strip(p element) (element, int) {
	for level := range c {
		undo, ok := c[level][p[level]]
		if !ok {
			return p, level
		}
		p = p.then(undo)
	}
	return p, len(c)
}

func (c chain) contains(p element) bool {
	rest, _ := c.strip(p)
	return rest == identity()
}

func (c chain) order() int {
	order := 1
	for _, level := range c {
		order *= len(level)
	}
	return order
}
