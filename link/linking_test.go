package link

import (
	"slices"
	"testing"

	"timbrel/alexander"
	"timbrel/api"
	"timbrel/intmatrix"
	"timbrel/jones"
)

// P16.2: LinkingNumbers.
func TestLinkingNumbers(t *testing.T) {
	for _, c := range []struct {
		name string
		n    int
		w    []int
		want [][]int
	}{
		{"circle", 1, nil, [][]int{{0}}},
		{"circle", 1, []int{}, [][]int{{0}}},
		{"circle", 2, []int{1}, [][]int{{1}}},
		{"circle", 2, []int{-1}, [][]int{{-1}}},
		{"circle", 3, []int{1, -2}, [][]int{{0}}},
		{"circle", 6, []int{1, 2, 3, 4, 5}, [][]int{{5}}},
		{"trefoil", 2, []int{1, 1, 1}, [][]int{{3}}},
		{"trefoil", 3, []int{-1, -2, -1, -2}, [][]int{{-4}}},
		{"figure eight", 3, []int{1, -2, 1, -2}, [][]int{{0}}},
		{"two circles", 2, nil, [][]int{{0, 0}, {0, 0}}},
		{"two circles", 2, []int{-1, 1}, [][]int{{0, 0}, {0, 0}}},
		{"two circles", 3, []int{1}, [][]int{{1, 0}, {0, 0}}},
		{"two circles", 3, []int{-2}, [][]int{{0, 0}, {0, -1}}},
		{"two circles", 4, []int{1, -3}, [][]int{{1, 0}, {0, -1}}},
		{"Hopf link", 2, []int{1, 1}, [][]int{{0, 1}, {1, 0}}}, // the chapter's example
		{"Hopf link", 2, []int{-1, -1}, [][]int{{0, -1}, {-1, 0}}},
		{"Hopf link", 3, []int{1, 2, 1}, [][]int{{1, 1}, {1, 0}}},
		{"Hopf link", 3, []int{1, 1, -2}, [][]int{{0, 1}, {1, -1}}},
		{"Hopf link and circle", 4, []int{1, 3, 3}, [][]int{{1, 0, 0}, {0, 0, 1}, {0, 1, 0}}},
		{"Whitehead link", 3, []int{1, -2, 1, -2, -2}, [][]int{{-1, 0}, {0, 0}}},
		{"Borromean rings", 3, repeat(3, 1, -2), [][]int{{0, 0, 0}, {0, 0, 0}, {0, 0, 0}}},
		{"strand around two", 3, []int{1, 2, 2, 1}, [][]int{{0, 1, 1}, {1, 0, 0}, {1, 0, 0}}},
		{"strand around two in opposite directions", 3, []int{1, 1, -2, -2}, [][]int{{0, 1, 0}, {1, 0, -1}, {0, -1, 0}}},
		{"first and last strand", 3, []int{1, 2, 2, -1}, [][]int{{0, 0, 1}, {0, 0, 0}, {1, 0, 0}}},
		{"first and last strand", 6, []int{1, 2, 3, 4, -5, -5, -4, -3, -2, -1}, [][]int{
			{0, 0, 0, 0, 0, -1},
			{0, 0, 0, 0, 0, 0},
			{0, 0, 0, 0, 0, 0},
			{0, 0, 0, 0, 0, 0},
			{0, 0, 0, 0, 0, 0},
			{-1, 0, 0, 0, 0, 0},
		}},
		{"chain", 4, []int{1, 1, 2, 2, 2, 2, -3, -3}, [][]int{{0, 1, 0, 0}, {1, 0, 2, 0}, {0, 2, 0, -1}, {0, 0, -1, 0}}},
		{"15 times around", 2, repeat(30, 1), [][]int{{0, 15}, {15, 0}}},
		{"15 times around", 2, repeat(30, -1), [][]int{{0, -15}, {-15, 0}}},
		{"29 letters", 2, repeat(29, -1), [][]int{{-29}}},
		{"30 letters", 3, append(repeat(29, 1), -2), [][]int{{28}}},
	} {
		if l, e := LinkingNumbers(c.n, c.w); e != api.OK || !sameLists(l, c.want) {
			t.Errorf("%s: LinkingNumbers(%d, %v) = %v, %d, want %v", c.name, c.n, c.w, l, e, c.want)
		}
	}
}

// P16.2: words of all lengths up to MaxBraid.
func TestLinkingNumbersFollowTheDefinition(t *testing.T) {
	for _, c := range samples(api.MaxBraid) {
		want := plainLinking(t, c.n, c.w)
		if l := linking(t, c.n, c.w); !sameLists(l, want) {
			t.Errorf("LinkingNumbers(%d, %v) = %v, want %v", c.n, c.w, l, want)
		}
	}
}

// P16.2: the matrix is symmetric, and each crossing counts once: with its sign on the diagonal, or with half of it in two elements.
func TestLinkingNumbersAddUp(t *testing.T) {
	for _, c := range samples(api.MaxBraid) {
		want := 0
		for _, x := range c.w {
			want += plainSign(x)
		}
		l, sum := linking(t, c.n, c.w), 0
		for i, row := range l {
			for k, x := range row {
				sum += x
				if x != l[k][i] {
					t.Errorf("LinkingNumbers(%d, %v) = %v is not symmetric", c.n, c.w, l)
				}
			}
		}
		if sum != want {
			t.Errorf("LinkingNumbers(%d, %v) = %v has the sum %d, want %d", c.n, c.w, l, sum, want)
		}
	}
}

// P16.2: k staircases on n strands, with d = gcd(n, k). Each component consists of k/d staircases on n/d strands, and goes n/d times k/d times around each other one.
func TestLinkingNumbersOfStaircases(t *testing.T) {
	for n := 2; n <= api.MaxStrands; n++ {
		for k := 0; k*(n-1) <= api.MaxBraid; k++ {
			d := plainGCD(k, n)
			w := repeat(k, staircase(n)...)
			for sign, v := range map[int][]int{1: w, -1: mirrored(w)} {
				want := make([][]int, d)
				for i := range want {
					want[i] = slices.Repeat([]int{sign * (n / d) * (k / d)}, d)
					want[i][i] = sign * (n/d - 1) * (k / d)
				}
				if l := linking(t, n, v); !sameLists(l, want) {
					t.Errorf("LinkingNumbers(%d, %v) = %v, want %v", n, v, l, want)
				}
			}
		}
	}
}

// P16.2: two strands that are brought side by side, turned around each other k times and brought back.
func TestLinkingNumbersOfTwoStrands(t *testing.T) {
	for n := 2; n <= api.MaxStrands; n++ {
		for i := range n {
			for j := i + 1; j < n; j++ {
				for k := -5; k <= 5; k++ {
					var there []int
					for x := i + 1; x < j; x++ {
						there = append(there, x)
					}
					w := slices.Concat(there, repeat(2*plainIndex(k), j*plainSign(k)), mirrored(backward(there)))
					want := make([][]int, n)
					for row := range want {
						want[row] = make([]int, n)
					}
					want[i][j], want[j][i] = k, k
					if l := linking(t, n, w); !sameLists(l, want) {
						t.Errorf("LinkingNumbers(%d, %v) = %v, want %v", n, w, l, want)
					}
				}
			}
		}
	}
}

// P16.2: opposite signs of all letters give opposite numbers, the opposite order the same ones.
func TestLinkingNumbersOfMirrorImage(t *testing.T) {
	for _, c := range samples(api.MaxBraid) {
		same := linking(t, c.n, c.w)
		var opposite [][]int
		for _, row := range same {
			opposite = append(opposite, mirrored(row))
		}
		if l := linking(t, c.n, backward(c.w)); !sameLists(l, same) {
			t.Errorf("LinkingNumbers(%d, %v) = %v backward, want %v", c.n, c.w, l, same)
		}
		for _, w := range [][]int{mirrored(c.w), mirrored(backward(c.w))} {
			if l := linking(t, c.n, w); !sameLists(l, opposite) {
				t.Errorf("LinkingNumbers(%d, %v) = %v, want %v", c.n, w, l, opposite)
			}
		}
	}
}

// P16.2: words that are equal as braids have the same numbers, also within the components.
func TestLinkingNumbersOfEqualBraids(t *testing.T) {
	var s source
	for _, r := range relations() {
		u, v := s.word(r.n, s.below(10)), s.word(r.n, s.below(10))
		a, b := slices.Concat(u, r.a, v), slices.Concat(u, r.b, v)
		if first, second := linking(t, r.n, a), linking(t, r.n, b); !sameLists(first, second) {
			t.Errorf("on %d strands: %v for %v, but %v for %v", r.n, first, a, second, b)
		}
	}
}

// byStrands returns the element for the components of each two strands.
func byStrands(t *testing.T, n int, w []int) [][]int {
	t.Helper()
	component := make([]int, n)
	for k, c := range components(t, n, w) {
		for _, strand := range c {
			component[strand] = k
		}
	}
	l := linking(t, n, w)
	var rows [][]int
	for _, a := range component {
		var row []int
		for _, b := range component {
			row = append(row, l[a][b])
		}
		rows = append(rows, row)
	}
	return rows
}

// P16.2: if the first letter goes to the end, the strands at its two positions exchange their numbers.
func TestLinkingNumbersOfConjugates(t *testing.T) {
	for _, c := range samples(api.MaxBraid) {
		if len(c.w) == 0 {
			continue
		}
		want := byStrands(t, c.n, c.w)
		i := plainIndex(c.w[0])
		want[i-1], want[i] = want[i], want[i-1]
		for _, row := range want {
			row[i-1], row[i] = row[i], row[i-1]
		}
		w := append(slices.Clone(c.w[1:]), c.w[0])
		if l := byStrands(t, c.n, w); !sameLists(l, want) {
			t.Errorf("the numbers of (%d, %v) are %v by strands, want %v as for %v", c.n, w, l, want, c.w)
		}
	}
}

// P16.2: a further strand that one crossing joins to the last one changes nothing but the sum for the component of the last one.
func TestLinkingNumbersOfStabilizedBraids(t *testing.T) {
	for _, c := range samples(api.MaxBraid - 1) {
		if c.n == api.MaxStrands {
			continue
		}
		for _, sign := range []int{1, -1} {
			want := linking(t, c.n, c.w)
			for k, strands := range components(t, c.n, c.w) {
				if slices.Contains(strands, c.n-1) {
					want[k][k] += sign
				}
			}
			w := append(slices.Clone(c.w), sign*c.n)
			if l := linking(t, c.n+1, w); !sameLists(l, want) {
				t.Errorf("LinkingNumbers(%d, %v) = %v, want %v", c.n+1, w, l, want)
			}
		}
	}
}

// P16.2: links side by side have the numbers of each, and 0 between them.
func TestLinkingNumbersOfSeparateLinks(t *testing.T) {
	var s source
	for n := 2; n <= api.MaxStrands-2; n++ {
		for k := 2; n+k <= api.MaxStrands; k++ {
			a, b := s.word(n, s.below(16)), s.word(k, s.below(16))
			first, second := linking(t, n, a), linking(t, k, b)
			var want [][]int
			for _, row := range first {
				want = append(want, slices.Concat(row, make([]int, len(second))))
			}
			for _, row := range second {
				want = append(want, slices.Concat(make([]int, len(first)), row))
			}
			for _, w := range [][]int{slices.Concat(a, shifted(b, n)), slices.Concat(shifted(b, n), a)} {
				if l := linking(t, n+k, w); !sameLists(l, want) {
					t.Errorf("LinkingNumbers(%d, %v) = %v, want %v", n+k, w, l, want)
				}
			}
		}
	}
}

// total returns the sum of the numbers for all pairs of different components.
func total(l [][]int) int {
	sum := 0
	for i, row := range l {
		for _, x := range row[i+1:] {
			sum += x
		}
	}
	return sum
}

// P16.2: for c components, the Jones polynomial at A = 1 is (-2)^(c-1), and its derivative there is -6 (-2)^(c-1) times the sum of the numbers for all pairs (Murakami).
func TestLinkingNumbersAgreeWithJones(t *testing.T) {
	for _, c := range samples(api.MaxBracket) {
		p, e := jones.Polynomial(c.n, c.w)
		if e != api.OK {
			t.Fatalf("jones.Polynomial(%d, %v): error %d", c.n, c.w, e)
		}
		value, derivative := 0, 0
		for i, x := range p.C {
			value += x
			derivative += x * (p.Low + i)
		}
		l := linking(t, c.n, c.w)
		power := 1
		for range len(l) - 1 {
			power *= -2
		}
		if value != power || derivative != -6*power*total(l) {
			t.Errorf("LinkingNumbers(%d, %v) = %v, but the Jones polynomial has the value %d and the derivative %d", c.n, c.w, l, value, derivative)
		}
	}
}

// minor returns a determinant for c components: that of the matrix of the linking numbers with elements on the diagonal that let each row add up to 0, without its first row and column.
func minor(t *testing.T, l [][]int) int {
	t.Helper()
	if len(l) == 1 {
		return 1
	}
	var rows [][]int
	for i, row := range l[1:] {
		row = slices.Clone(row)
		row[i+1] = 0
		for k, x := range row {
			if k != i+1 {
				row[i+1] -= x
			}
		}
		rows = append(rows, row[1:])
	}
	d, e := intmatrix.Det(rows)
	if e != api.OK {
		t.Fatalf("intmatrix.Det(%v): error %d", rows, e)
	}
	return d
}

// P16.2: for c components, the Alexander polynomial divided by (1 - t)^(c-1) has at t = 1 the value of that minor, but for its sign (Hosokawa).
func TestLinkingNumbersAgreeWithAlexander(t *testing.T) {
	for _, c := range samples(api.MaxAlexander) {
		p, e := alexander.Polynomial(c.n, c.w)
		if e != api.OK {
			t.Fatalf("alexander.Polynomial(%d, %v): error %d", c.n, c.w, e)
		}
		coefficients := slices.Clone(p.C)
		l := linking(t, c.n, c.w)
		for range len(l) - 1 {
			coefficients = quotient(t, coefficients)
		}
		value := 0
		for _, x := range coefficients {
			value += x
		}
		if want := minor(t, l); plainIndex(value) != plainIndex(want) {
			t.Errorf("LinkingNumbers(%d, %v) = %v with the minor %d, but the Alexander polynomial gives %d", c.n, c.w, l, want, value)
		}
	}
}

// quotient divides a polynomial by 1 - t: its coefficients are the sums of those so far.
func quotient(t *testing.T, coefficients []int) []int {
	t.Helper()
	sum := 0
	var sums []int
	for _, x := range coefficients {
		sum += x
		sums = append(sums, sum)
	}
	if sum != 0 {
		t.Errorf("the polynomial with the coefficients %v is not divisible by 1 - t", coefficients)
	}
	return sums
}

// P16.2: the errors of braid.Check.
func TestErrorsOfLinkingNumbers(t *testing.T) {
	for _, c := range commonErrors {
		l, e := LinkingNumbers(c.n, c.w)
		if e != c.want || e != api.OK && len(l) != 0 {
			t.Errorf("LinkingNumbers(%d, %v) = %v, %d, want error %d", c.n, c.w, l, e, c.want)
		}
	}
}
