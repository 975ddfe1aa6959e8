package alexander

import (
	"testing"

	"timbrel/api"
	"timbrel/jones"
)

// P14.2: Determinant. These are the determinants in tables of knots and links.
func TestDeterminant(t *testing.T) {
	for _, c := range []struct {
		name string
		n    int
		w    []int
		want int
	}{
		{"circle", 1, nil, 1},
		{"circle", 2, []int{-1}, 1},
		{"circle", 6, []int{1, -2, 3, -4, 5}, 1},
		{"two circles", 2, nil, 0},
		{"six circles", 6, nil, 0},
		{"Hopf link", 2, []int{1, 1}, 2},
		{"Hopf link", 2, []int{-1, -1}, 2},
		{"trefoil", 2, []int{1, 1, 1}, 3},
		{"trefoil", 2, []int{-1, -1, -1}, 3},
		{"figure eight", 3, []int{1, -2, 1, -2}, 5},
		{"5_2", 3, []int{1, 1, 1, 2, -1, 2}, 7},
		{"Whitehead link", 3, []int{1, -2, 1, -2, -2}, 8},
		{"6_1", 4, []int{1, 1, 2, -1, -3, 2, -3}, 9},
		{"6_2", 3, []int{-1, -1, -1, 2, -1, 2}, 11},
		{"6_3", 3, []int{-1, -1, 2, -1, 2, 2}, 13},
		{"7_4", 4, []int{1, 1, 2, -1, 2, 2, 3, -2, 3}, 15},
		{"7_7", 4, []int{1, -2, 1, -2, 3, -2, 3}, 21},
		{"8_19", 3, repeat(4, 1, 2), 3},
		{"8_20", 3, []int{1, 1, 1, -2, -1, -1, -1, -2}, 9},
		{"10_124", 3, repeat(5, 1, 2), 1},
	} {
		if d, e := Determinant(c.n, c.w); d != c.want || e != api.OK {
			t.Errorf("%s: Determinant(%d, %v) = %d, %d, want %d", c.name, c.n, c.w, d, e, c.want)
		}
	}
}

// P14.2: that of k crossings of two strands is k, and those of alternating crossings of three strands follow from the Lucas numbers: they are L(2k) - 2.
func TestDeterminantOfRepeatedLetters(t *testing.T) {
	lucas, next := 2, 3 // L(0) and L(2)
	for k := 0; k <= api.MaxAlexander; k++ {
		for _, x := range letters(2) {
			if d := determinantOf(t, 2, repeat(k, x)); d != k {
				t.Errorf("Determinant of %d letters %d on 2 strands: %d", k, x, d)
			}
		}
		if 2*k <= api.MaxAlexander {
			if d := determinantOf(t, 3, repeat(k, 1, -2)); d != lucas-2 {
				t.Errorf("Determinant of %d letters 1 and -2 on 3 strands: %d, want %d", k, d, lucas-2)
			}
		}
		lucas, next = next, 3*next-lucas
	}
}

// alternating returns the absolute value of the sum of numbers with alternating signs.
func alternating(l []int) int {
	sum := 0
	for _, x := range l {
		sum = x - sum
	}
	return plainIndex(sum)
}

// P14.2: the absolute value of the polynomial at t = -1.
func TestDeterminantFollowsTheDefinition(t *testing.T) {
	for _, c := range append(samples(api.MaxAlexander), longWords()...) {
		want := alternating(polynomial(t, c.n, c.w).C)
		if d := determinantOf(t, c.n, c.w); d != want {
			t.Errorf("Determinant(%d, %v) = %d, want %d", c.n, c.w, d, want)
		}
	}
}

// P14.2: the value of the Jones polynomial for A^4 = -1 has the same absolute value. Its exponents differ by multiples of 4.
func TestDeterminantAgreesWithJones(t *testing.T) {
	for _, c := range samples(api.MaxBracket) {
		p, e := jones.Polynomial(c.n, c.w)
		if e != api.OK {
			t.Fatalf("jones.Polynomial(%d, %v): error %d", c.n, c.w, e)
		}
		var l []int
		for i := 0; i < len(p.C); i += 4 {
			l = append(l, p.C[i])
		}
		if d := determinantOf(t, c.n, c.w); d != alternating(l) {
			t.Errorf("Determinant(%d, %v) = %d, but the Jones polynomial has the value %d", c.n, c.w, d, alternating(l))
		}
	}
}

// P14.2: the errors of Polynomial.
func TestErrorsOfDeterminant(t *testing.T) {
	for _, c := range errorCases {
		d, e := Determinant(c.n, c.w)
		if e != c.want || e != api.OK && d != 0 {
			t.Errorf("Determinant(%d, %v) = %d, %d, want error %d", c.n, c.w, d, e, c.want)
		}
	}
}
