package coloring

import (
	"slices"
	"testing"

	"timbrel/alexander"
	"timbrel/api"
)

// P15.2: Count. Each of these knots has a cyclic group, whose order is the determinant in tables, and so modulus times gcd(order, modulus) colorings.
func TestCountOfKnots(t *testing.T) {
	for _, c := range []struct {
		name  string
		n     int
		w     []int
		order int
	}{
		{"circle", 1, nil, 1},
		{"circle", 1, []int{}, 1},
		{"circle", 2, []int{1}, 1},
		{"circle", 2, []int{-1}, 1},
		{"circle", 3, []int{1, -2}, 1},
		{"circle", 6, []int{1, -2, 3, -4, 5}, 1},
		{"trefoil", 2, []int{1, 1, 1}, 3},
		{"trefoil", 2, []int{-1, -1, -1}, 3},
		{"trefoil", 3, []int{1, 2, 1, 2}, 3},
		{"figure eight", 3, []int{1, -2, 1, -2}, 5},
		{"5_1", 2, repeat(5, 1), 5},
		{"5_2", 3, []int{1, 1, 1, 2, -1, 2}, 7},
		{"6_1", 4, []int{1, 1, 2, -1, -3, 2, -3}, 9},
		{"6_2", 3, []int{-1, -1, -1, 2, -1, 2}, 11},
		{"6_3", 3, []int{-1, -1, 2, -1, 2, 2}, 13},
		{"7_1", 2, repeat(7, -1), 7},
		{"7_4", 4, []int{1, 1, 2, -1, 2, 2, 3, -2, 3}, 15},
		{"7_7", 4, []int{1, -2, 1, -2, 3, -2, 3}, 21},
		{"8_19", 3, repeat(4, 1, 2), 3},
		{"8_20", 3, []int{1, 1, 1, -2, -1, -1, -1, -2}, 9},
		{"10_124", 3, repeat(5, 1, 2), 1},
	} {
		for modulus := 1; modulus <= api.MaxModulus; modulus++ {
			want := modulus * plainGCD(c.order, modulus)
			if k, e := Count(c.n, c.w, modulus); e != api.OK || k != want {
				t.Errorf("%s: Count(%d, %v, %d) = %d, %d, want %d", c.name, c.n, c.w, modulus, k, e, want)
			}
		}
	}
}

// P15.2: links and knots with other groups.
func TestCount(t *testing.T) {
	for _, c := range []struct {
		name    string
		n       int
		w       []int
		modulus int
		want    int
	}{
		{"two circles", 2, nil, 3, 9},
		{"two circles", 2, []int{1, -1}, 4, 16},
		{"two circles", 3, []int{-1}, 13, 169},
		{"six circles", 6, nil, 1, 1},
		{"six circles", 6, nil, 2, 64},
		{"six circles", 6, nil, 13, 4826809},
		{"Hopf link", 2, []int{1, 1}, 2, 4},
		{"Hopf link", 2, []int{1, 1}, 3, 3},
		{"Hopf link", 2, []int{-1, -1}, 4, 8},
		{"trefoil and circle", 3, []int{1, 1, 1}, 3, 27},
		{"trefoil and circle", 3, []int{1, 1, 1}, 5, 25},
		{"trefoil and trefoil", 4, []int{1, 3, 1, 3, 1, 3}, 3, 81},
		{"two trefoils", 3, []int{1, 1, 1, 2, 2, 2}, 3, 27},
		{"two trefoils", 3, []int{1, 1, 1, -2, -2, -2}, 9, 81},
		{"five trefoils", 6, slices.Concat(repeat(3, 1), repeat(3, -2), repeat(3, 3), repeat(3, -4), repeat(3, 5)), 3, 729},
		{"Borromean rings", 3, repeat(3, 1, -2), 2, 8},
		{"Borromean rings", 3, repeat(3, 1, -2), 3, 3},
		{"Borromean rings", 3, repeat(3, 1, -2), 4, 64},
		{"Borromean rings", 3, repeat(3, 1, -2), 8, 128},
		{"8_18", 3, repeat(4, 1, -2), 3, 27},
		{"8_18", 3, repeat(4, 1, -2), 5, 25},
		{"8_18", 3, repeat(4, 1, -2), 9, 81},
		{"full turn", 6, repeat(6, 1, 2, 3, 4, 5), 3, 243},
	} {
		if k, e := Count(c.n, c.w, c.modulus); e != api.OK || k != c.want {
			t.Errorf("%s: Count(%d, %v, %d) = %d, %d, want %d", c.name, c.n, c.w, c.modulus, k, e, c.want)
		}
	}
}

// P15.2: the number of lists for which the colors at the end are the same ones.
func TestCountFollowsTheDefinition(t *testing.T) {
	for _, c := range samples(api.MaxBraid) {
		for modulus := 1; modulus <= api.MaxModulus && plainPower(modulus, c.n) <= 4096; modulus++ {
			want := plainCount(c.n, c.w, modulus)
			if k := counted(t, c.n, c.w, modulus); k != want {
				t.Errorf("Count(%d, %v, %d) = %d, want %d", c.n, c.w, modulus, k, want)
			}
		}
	}
	for _, c := range []braidCase{
		{6, repeat(15, 5, -3)},
		{6, slices.Concat(repeat(13, 1), repeat(13, 4), []int{3})},
		{6, []int{1, -2, 3, -4, 5, 1, -3, 5, 2, -4, 1, 1, -2}},
	} {
		want := plainCount(c.n, c.w, 13)
		if k := counted(t, c.n, c.w, 13); k != want {
			t.Errorf("Count(%d, %v, 13) = %d, want %d", c.n, c.w, k, want)
		}
	}
}

// P15.2: k crossings of two strands have modulus gcd(k, modulus) colorings.
func TestCountOfTwoStrands(t *testing.T) {
	for k := range api.MaxBraid + 1 {
		for modulus := 1; modulus <= api.MaxModulus; modulus++ {
			want := modulus * plainGCD(k, modulus)
			for _, x := range letters(2) {
				if got := counted(t, 2, repeat(k, x), modulus); got != want {
					t.Errorf("Count of %d letters %d modulo %d: %d, want %d", k, x, modulus, got, want)
				}
			}
		}
	}
}

// P15.2: k times [1 -2] has a group with two generators. Their orders are the Lucas number L(k) twice if k is odd, and the Fibonacci numbers F(k) and 5 F(k) if k is even.
func TestCountOfTurksHeads(t *testing.T) {
	lucas, nextLucas := 2, 1
	fibonacci, nextFibonacci := 0, 1
	for k := range api.MaxBraid/2 + 1 {
		orders := [2]int{fibonacci, 5 * fibonacci}
		if k%2 == 1 {
			orders = [2]int{lucas, lucas}
		}
		for modulus := 1; modulus <= api.MaxModulus; modulus++ {
			want := modulus * plainGCD(orders[0], modulus) * plainGCD(orders[1], modulus)
			if got := counted(t, 3, repeat(k, 1, -2), modulus); got != want {
				t.Errorf("Count of %d times [1 -2] modulo %d: %d, want %d", k, modulus, got, want)
			}
		}
		lucas, nextLucas = nextLucas, lucas+nextLucas
		fibonacci, nextFibonacci = nextFibonacci, fibonacci+nextFibonacci
	}
}

// P15.2: the numbers for moduli without a common divisor multiply to that for their product.
func TestCountOfProductOfModuli(t *testing.T) {
	for _, c := range samples(api.MaxBraid) {
		for _, m := range [][2]int{{1, 13}, {2, 3}, {2, 5}, {3, 4}} {
			a, b := counted(t, c.n, c.w, m[0]), counted(t, c.n, c.w, m[1])
			if k := counted(t, c.n, c.w, m[0]*m[1]); k != a*b {
				t.Errorf("Count(%d, %v, %d) = %d, want %d times %d", c.n, c.w, m[0]*m[1], k, a, b)
			}
		}
	}
}

// P15.2: modulo an odd prime number, there are more colorings than colors if and only if the determinant is divisible by it.
func TestCountAgreesWithDeterminant(t *testing.T) {
	for _, c := range samples(api.MaxAlexander) {
		d, e := alexander.Determinant(c.n, c.w)
		if e != api.OK {
			t.Fatalf("alexander.Determinant(%d, %v): error %d", c.n, c.w, e)
		}
		for _, p := range []int{3, 5, 7, 11, 13} {
			if k := counted(t, c.n, c.w, p); (k > p) != (d%p == 0) {
				t.Errorf("Count(%d, %v, %d) = %d, but the determinant is %d", c.n, c.w, p, k, d)
			}
		}
	}
}

// P15.2: a further strand without letters multiplies by the number of colors.
func TestCountOfFurtherStrand(t *testing.T) {
	for _, c := range samples(api.MaxBraid) {
		if c.n == api.MaxStrands {
			continue
		}
		for modulus := 1; modulus <= api.MaxModulus; modulus++ {
			want := modulus * counted(t, c.n, c.w, modulus)
			for _, w := range [][]int{c.w, shifted(c.w, 1)} {
				if k := counted(t, c.n+1, w, modulus); k != want {
					t.Errorf("Count(%d, %v, %d) = %d, want %d", c.n+1, w, modulus, k, want)
				}
			}
		}
	}
}

// P15.2: in two links that are connected to one, the shared strand has one color.
func TestCountOfConnectedLinks(t *testing.T) {
	var s source
	for n := 2; n < api.MaxStrands; n++ {
		for k := 2; n+k-1 <= api.MaxStrands; k++ {
			a, b := s.word(n, s.below(16)), s.word(k, s.below(16))
			w := slices.Concat(a, shifted(b, n-1))
			for modulus := 1; modulus <= api.MaxModulus; modulus++ {
				want := counted(t, n, a, modulus) * counted(t, k, b, modulus) / modulus
				if got := counted(t, n+k-1, w, modulus); got != want {
					t.Errorf("Count(%d, %v, %d) = %d, want %d", n+k-1, w, modulus, got, want)
				}
			}
		}
	}
}

// P15.2: opposite signs of all letters or the opposite order change nothing.
func TestCountOfMirrorImage(t *testing.T) {
	for _, c := range samples(api.MaxBraid) {
		inverse := plainInverse(c.w)
		backward := slices.Clone(c.w)
		slices.Reverse(backward)
		for modulus := 1; modulus <= api.MaxModulus; modulus++ {
			want := counted(t, c.n, c.w, modulus)
			for _, w := range [][]int{inverse, backward, plainInverse(backward)} {
				if k := counted(t, c.n, w, modulus); k != want {
					t.Errorf("Count(%d, %v, %d) = %d, but for %v it is %d", c.n, w, modulus, k, c.w, want)
				}
			}
		}
	}
}

// moved returns a braid whose closed braid is the same link, or the same braid if the move that is tried is not possible.
func (s *source) moved(c braidCase) braidCase {
	n, w := c.n, slices.Clone(c.w)
	switch s.below(6) {
	case 0: // the first letter goes to the end
		if len(w) > 0 {
			w = append(w[1:], w[0])
		}
	case 1: // a pair of inverse letters is inserted
		if n > 1 {
			x := s.word(n, 1)[0]
			w = slices.Insert(w, s.below(len(w)+1), x, -x)
		}
	case 2: // a strand is added
		w = append(w, []int{n, -n}[s.below(2)])
		n++
	case 3: // the last strand is removed
		if len(w) > 0 && plainIndex(w[len(w)-1]) == n-1 && !hasGenerator(w[:len(w)-1], n-1) {
			w = w[:len(w)-1]
			n--
		}
	default: // a relation is applied somewhere
		w = s.related(n, w)
	}
	if n > api.MaxStrands || len(w) > api.MaxBraid {
		return c
	}
	return braidCase{n, w}
}

func hasGenerator(w []int, i int) bool {
	return slices.Contains(w, i) || slices.Contains(w, -i)
}

// related replaces a part of a word that is one side of a relation by the other side, if there is such a part.
func (s *source) related(n int, w []int) []int {
	all := relations()
	first := s.below(len(all))
	for _, r := range slices.Concat(all[first:], all[:first]) {
		for at := range w {
			end := at + len(r.a)
			if r.n == n && end <= len(w) && slices.Equal(w[at:end], r.a) {
				return slices.Concat(w[:at], r.b, w[end:])
			}
		}
	}
	return w
}

// P15.2: the same for all braids whose closed braids are the same link.
func TestCountOfSameLink(t *testing.T) {
	var s source
	for _, c := range samples(20) {
		modulus := 1 + s.below(api.MaxModulus)
		want := counted(t, c.n, c.w, modulus)
		d := c
		for range 30 {
			d = s.moved(d)
			if k := counted(t, d.n, d.w, modulus); k != want {
				t.Fatalf("Count(%d, %v, %d) = %d, but for (%d, %v) it is %d", d.n, d.w, modulus, k, c.n, c.w, want)
			}
		}
	}
}

// P15.2: the errors of braid.Check, then ErrArgument for the modulus.
func TestErrorsOfCount(t *testing.T) {
	for _, c := range commonErrors {
		k, e := Count(c.n, c.w, c.modulus)
		if e != c.want || e != api.OK && k != 0 {
			t.Errorf("Count(%d, %v, %d) = %d, %d, want error %d", c.n, c.w, c.modulus, k, e, c.want)
		}
	}
}
