package intmatrix

import (
	"math"
	"slices"
	"testing"

	"timbrel/api"
)

// filled returns a matrix all of whose elements are x.
func filled(rows, cols, x int) [][]int {
	m := make([][]int, rows)
	for i := range m {
		m[i] = slices.Repeat([]int{x}, cols)
	}
	return m
}

// diagonal returns a matrix with the elements x from the upper left corner on and 0 elsewhere.
func diagonal(rows, cols int, x ...int) [][]int {
	m := filled(rows, cols, 0)
	for i, y := range x {
		m[i][i] = y
	}
	return m
}

// conference6 is a matrix whose rows are orthogonal to each other.
var conference6 = [][]int{
	{0, 1, 1, 1, 1, 1},
	{1, 0, 1, -1, -1, 1},
	{1, 1, 0, 1, -1, -1},
	{1, -1, 1, 0, 1, -1},
	{1, -1, -1, 1, 0, 1},
	{1, 1, -1, -1, 1, 0},
}

// times returns the matrix with each element multiplied by x.
func times(x int, m [][]int) [][]int {
	l := make([][]int, len(m))
	for i, row := range m {
		for _, y := range row {
			l[i] = append(l[i], x*y)
		}
	}
	return l
}

// source is a sequence of numbers that look random and are always the same.
type source uint64

func (s *source) below(n int) int {
	*s = *s*6364136223846793005 + 1442695040888963407
	return int(uint64(*s) >> 33 % uint64(n))
}

// matrix returns a matrix with elements from -bound to bound.
func (s *source) matrix(rows, cols, bound int) [][]int {
	m := filled(rows, cols, 0)
	for i := range rows {
		for j := range cols {
			m[i][j] = s.below(2*bound+1) - bound
		}
	}
	return m
}

// dependent returns a matrix each of whose rows from the given one on is a sum of multiples of the rows before.
func (s *source) dependent(rows, cols, rank int) [][]int {
	m := s.matrix(rows, cols, 3)
	for i := rank; i < rows; i++ {
		m[i] = make([]int, cols)
		for k := range rank {
			x := s.below(7) - 3
			for j := range cols {
				m[i][j] += x * m[k][j]
			}
		}
	}
	return m
}

// samples returns matrices of all sizes, with small and large elements, multiples, and dependent rows.
func samples() [][][]int {
	var s source
	var all [][][]int
	for rows := range api.MaxSide + 1 {
		for cols := range api.MaxSide + 1 {
			for _, bound := range []int{0, 1, 2, 6, 20, api.MaxEntry} {
				all = append(all, s.matrix(rows, cols, bound), s.matrix(rows, cols, bound))
			}
			all = append(all, times(6, s.matrix(rows, cols, 3)), times(13, s.matrix(rows, cols, 7)))
			for rank := range rows {
				all = append(all, s.dependent(rows, cols, rank))
			}
		}
	}
	return append(all, conference6, times(100, conference6))
}

// tinyMatrices returns all matrices of a size with elements from -bound to bound.
func tinyMatrices(rows, cols, bound int) [][][]int {
	if rows == 0 {
		return [][][]int{nil}
	}
	var all [][][]int
	for _, m := range tinyMatrices(rows-1, cols, bound) {
		for _, row := range vectors(cols, 2*bound+1) {
			for i := range row {
				row[i] -= bound
			}
			all = append(all, append(slices.Clone(m), row))
		}
	}
	return all
}

// vectors returns all vectors of n elements from 0 to size - 1.
func vectors(n, size int) [][]int {
	all := [][]int{nil}
	for range n {
		var next [][]int
		for _, v := range all {
			for x := range size {
				next = append(next, append(slices.Clone(v), x))
			}
		}
		all = next
	}
	return all
}

// plainDet adds the products of all choices of one element in each row and column, with their signs.
func plainDet(m [][]int) int {
	var sum func(row, used, product int) int
	sum = func(row, used, product int) int {
		if row == len(m) {
			return product
		}
		total := 0
		for col, x := range m[row] {
			if used>>col&1 != 0 {
				continue
			}
			// The column exchanges its place with each one that is used and lies behind it.
			signed := product * x
			for behind := col + 1; behind < len(m); behind++ {
				if used>>behind&1 != 0 {
					signed = -signed
				}
			}
			total += sum(row+1, used|1<<col, signed)
		}
		return total
	}
	return sum(0, 0, 1)
}

// choices returns all ascending lists of k of the numbers below n.
func choices(n, k int) [][]int {
	if k == 0 {
		return [][]int{nil}
	}
	var all [][]int
	for last := k - 1; last < n; last++ {
		for _, l := range choices(last, k-1) {
			all = append(all, append(slices.Clone(l), last))
		}
	}
	return all
}

func submatrix(m [][]int, rows, cols []int) [][]int {
	var l [][]int
	for _, i := range rows {
		var row []int
		for _, j := range cols {
			row = append(row, m[i][j])
		}
		l = append(l, row)
	}
	return l
}

func width(m [][]int) int {
	if len(m) == 0 {
		return 0
	}
	return len(m[0])
}

// plainGCD returns the greatest common divisor of two numbers of which the first one is not negative.
func plainGCD(a, b int) int {
	if b < 0 {
		b = -b
	}
	if a > b {
		a, b = b, a
	}
	if a == 0 {
		return b
	}
	return plainGCD(b%a, a)
}

// plainSmith follows the definition of the invariant factors.
func plainSmith(m [][]int) []int {
	var l []int
	before := 1
	for k := 1; k <= min(len(m), width(m)); k++ {
		d := 0
		for _, rows := range choices(len(m), k) {
			for _, cols := range choices(width(m), k) {
				d = plainGCD(d, plainDet(submatrix(m, rows, cols)))
			}
		}
		if d == 0 {
			l = append(l, 0)
		} else {
			l = append(l, d/before)
		}
		before = d
	}
	return l
}

// plainSolutions tries all vectors, without listing them.
func plainSolutions(m [][]int, modulus int) int {
	var count func(col int, sums []int) int
	count = func(col int, sums []int) int {
		if col == width(m) {
			if slices.ContainsFunc(sums, func(x int) bool { return x%modulus != 0 }) {
				return 0
			}
			return 1
		}
		n := 0
		next := slices.Clone(sums)
		for range modulus {
			n += count(col+1, next)
			for i, row := range m {
				next[i] += row[col]
			}
		}
		return n
	}
	return count(0, make([]int, len(m)))
}

var checkCases = []struct {
	m    [][]int
	want api.Errno
}{
	{nil, api.OK},
	{[][]int{nil}, api.OK},
	{[][]int{nil, {}, nil}, api.OK},
	{[][]int{{5}}, api.OK},
	{[][]int{{1, 2, 3}, {4, 5, 6}}, api.OK},
	{filled(6, 6, 100), api.OK},
	{filled(6, 6, -100), api.OK},
	{filled(6, 0, 0), api.OK},
	{filled(6, 1, 1), api.OK},
	{filled(1, 6, 1), api.OK},
	{filled(7, 0, 0), api.ErrTooLarge},
	{filled(7, 1, 0), api.ErrTooLarge},
	{filled(1, 7, 0), api.ErrTooLarge},
	{filled(7, 7, 0), api.ErrTooLarge},
	{[][]int{{1}, {1, 2}}, api.ErrMalformed},
	{[][]int{{1, 2}, {1}}, api.ErrMalformed},
	{[][]int{nil, {1}}, api.ErrMalformed},
	{[][]int{{1}, nil}, api.ErrMalformed},
	{[][]int{{1, 2}, {3, 4}, {5}}, api.ErrMalformed},
	{[][]int{{101}}, api.ErrArgument},
	{[][]int{{-101}}, api.ErrArgument},
	{[][]int{{math.MinInt}}, api.ErrArgument},
	{[][]int{{math.MaxInt}}, api.ErrArgument},
	{[][]int{{1 << 32}}, api.ErrArgument},
	{[][]int{{0, 0}, {0, 101}}, api.ErrArgument},

	// Several errors: the number of rows comes first, then one row after the other.
	{append(filled(6, 1, 101), []int{1, 2}), api.ErrTooLarge},
	{append([][]int{{1}, {1, 2}}, filled(5, 1, 0)...), api.ErrTooLarge},
	{filled(1, 7, 101), api.ErrTooLarge},
	{[][]int{{1}, {0, 0, 0, 0, 0, 0, 101}}, api.ErrTooLarge},
	{[][]int{{1}, {101, 1}}, api.ErrMalformed},
	{[][]int{{101}, {1, 2}}, api.ErrArgument},
	{[][]int{{101}, slices.Repeat([]int{0}, 7)}, api.ErrArgument},
	{[][]int{{1}, {1, 2}, {101}}, api.ErrMalformed},
	{[][]int{{1}, {1, 2}, slices.Repeat([]int{0}, 7)}, api.ErrMalformed},
	{[][]int{{1}, {-101}, {1, 2}}, api.ErrArgument},
	{[][]int{{1}, slices.Repeat([]int{0}, 7), {101}}, api.ErrTooLarge},
}

// P4.1: Check.
func TestCheck(t *testing.T) {
	for _, c := range checkCases {
		if got := Check(c.m); got != c.want {
			t.Errorf("Check(%v) = %d, want %d", c.m, got, c.want)
		}
	}
}

// P4.1: all other functions first return the error of Check, also where they have an error of their own.
func TestCheckComesFirst(t *testing.T) {
	for _, c := range checkCases {
		_, smithError := Smith(c.m)
		_, rankError := Rank(c.m)
		_, solutionsError := Solutions(c.m, 5)
		if smithError != c.want || rankError != c.want || solutionsError != c.want {
			t.Errorf("%v: errors %d, %d, %d, want %d", c.m, smithError, rankError, solutionsError, c.want)
		}
		if c.want == api.OK {
			continue
		}
		_, detError := Det(c.m)
		_, modulusError := Solutions(c.m, 0)
		if detError != c.want || modulusError != c.want {
			t.Errorf("%v: errors %d, %d, want %d", c.m, detError, modulusError, c.want)
		}
	}
}

var detCases = []struct {
	m    [][]int
	want int
	e    api.Errno
}{
	{nil, 1, api.OK},
	{[][]int{{0}}, 0, api.OK},
	{[][]int{{-7}}, -7, api.OK},
	{[][]int{{2, 0}, {0, 3}}, 6, api.OK},
	{[][]int{{0, 1}, {1, 0}}, -1, api.OK},
	{[][]int{{1, 2}, {2, 4}}, 0, api.OK},
	{[][]int{{0, 0, 1}, {1, 0, 0}, {0, 1, 0}}, 1, api.OK},
	{[][]int{{0, 0, 2}, {0, 3, 0}, {5, 0, 0}}, -30, api.OK},
	{[][]int{{2, 3, 1}, {4, 7, 1}, {6, 7, 9}}, 8, api.OK},
	{filled(6, 6, 100), 0, api.OK},
	{diagonal(6, 6, 100, 100, 100, 100, 100, 100), 1000000000000, api.OK},
	{conference6, -125, api.OK},
	{times(100, conference6), -125000000000000, api.OK},
	{[][]int{nil}, 0, api.ErrMalformed},
	{[][]int{{}, {}}, 0, api.ErrMalformed},
	{[][]int{{1, 2}}, 0, api.ErrMalformed},
	{[][]int{{1}, {2}}, 0, api.ErrMalformed},
	{filled(6, 5, 1), 0, api.ErrMalformed},
	{filled(5, 6, 1), 0, api.ErrMalformed},
}

// P4.2: Det.
func TestDet(t *testing.T) {
	for _, c := range detCases {
		if got, e := Det(c.m); got != c.want || e != c.e {
			t.Errorf("Det(%v) = %d, %d, want %d, %d", c.m, got, e, c.want, c.e)
		}
	}
}

// P4.2: Det is the sum over all choices of elements, and exists for square matrices only.
func TestDetIsTheSumOfProducts(t *testing.T) {
	for _, m := range append(samples(), tinyMatrices(3, 3, 1)...) {
		want, wantError := 0, api.ErrMalformed
		if len(m) == width(m) {
			want, wantError = plainDet(m), api.OK
		}
		if got, e := Det(m); got != want || e != wantError {
			t.Errorf("Det(%v) = %d, %d, want %d, %d", m, got, e, want, wantError)
		}
	}
}

var smithCases = []struct {
	m    [][]int
	want []int
}{
	{nil, nil},
	{[][]int{nil}, nil},
	{[][]int{{}, {}}, nil},
	{[][]int{{0}}, []int{0}},
	{[][]int{{1}}, []int{1}},
	{[][]int{{-12}}, []int{12}},
	{[][]int{{2, 0}, {0, 3}}, []int{1, 6}},
	{[][]int{{4, 0}, {0, 6}}, []int{2, 12}},
	{[][]int{{2, 4}, {6, 8}}, []int{2, 4}},
	{[][]int{{0, 0}, {0, -5}}, []int{5, 0}},
	{[][]int{{0, 0, 0}, {0, 0, 0}}, []int{0, 0}},
	{[][]int{{6, 10, 15}}, []int{1}},
	{[][]int{{-6}, {9}, {0}}, []int{3}},
	{[][]int{{1, 1, 1}, {2, 2, 2}}, []int{1, 0}},
	{[][]int{{2, 4, 4}, {-6, 6, 12}, {10, 4, 16}}, []int{2, 2, 156}},
	{diagonal(3, 3, 6, 10, 15), []int{1, 30, 30}},
	{diagonal(3, 4, 4, 0, 6), []int{2, 12, 0}},
	{diagonal(6, 6, 100, 100, 100, 100, 100, 100), []int{100, 100, 100, 100, 100, 100}},
	{diagonal(6, 6, 100, 99, 97, 91, 89, 83), []int{1, 1, 1, 1, 1, 100 * 99 * 97 * 91 * 89 * 83}},
	{filled(6, 6, -100), []int{100, 0, 0, 0, 0, 0}},
	{conference6, []int{1, 1, 1, 5, 5, 5}},
	{times(100, conference6), []int{100, 100, 100, 500, 500, 500}},
}

func rankOf(factors []int) int {
	rank := 0
	for _, f := range factors {
		if f != 0 {
			rank++
		}
	}
	return rank
}

// P4.3: Smith and Rank.
func TestSmith(t *testing.T) {
	for _, c := range smithCases {
		if got, e := Smith(c.m); !slices.Equal(got, c.want) || e != api.OK {
			t.Errorf("Smith(%v) = %v, %d, want %v", c.m, got, e, c.want)
		}
		if got, e := Rank(c.m); got != rankOf(c.want) || e != api.OK {
			t.Errorf("Rank(%v) = %d, %d, want %d", c.m, got, e, rankOf(c.want))
		}
	}
}

// P4.3: Smith and Rank follow from the determinants of all square submatrices.
func TestSmithFollowsTheDefinition(t *testing.T) {
	all := slices.Concat(samples(), tinyMatrices(2, 2, 4), tinyMatrices(2, 3, 2), tinyMatrices(3, 3, 1))
	for _, m := range all {
		want := plainSmith(m)
		if got, e := Smith(m); !slices.Equal(got, want) || e != api.OK {
			t.Errorf("Smith(%v) = %v, %d, want %v", m, got, e, want)
		}
		if got, e := Rank(m); got != rankOf(want) || e != api.OK {
			t.Errorf("Rank(%v) = %d, %d, want %d", m, got, e, rankOf(want))
		}
	}
}

// P4.3: each factor divides the next one, and none is negative.
func TestFactorsDivide(t *testing.T) {
	for _, m := range samples() {
		l, _ := Smith(m)
		for i, f := range l {
			if f < 0 {
				t.Errorf("Smith(%v) = %v", m, l)
			}
			if i > 0 && (l[i-1] == 0 && f != 0 || l[i-1] != 0 && f%l[i-1] != 0) {
				t.Errorf("Smith(%v) = %v", m, l)
			}
		}
	}
}

var solutionsCases = []struct {
	m       [][]int
	modulus int
	want    int
	e       api.Errno
}{
	{nil, 1, 1, api.OK},
	{nil, 13, 1, api.OK},
	{[][]int{nil}, 7, 1, api.OK},
	{[][]int{{}, {}}, 13, 1, api.OK},
	{[][]int{{0}}, 13, 13, api.OK},
	{[][]int{{4}}, 6, 2, api.OK},
	{[][]int{{-4}}, 6, 2, api.OK},
	{[][]int{{26}}, 13, 13, api.OK},
	{[][]int{{2, 0}, {0, 3}}, 6, 6, api.OK},
	{[][]int{{1, 1, 1}}, 12, 144, api.OK},
	{[][]int{{1}, {0}, {0}}, 5, 1, api.OK},
	{[][]int{{6, 4}}, 12, 24, api.OK},
	{[][]int{{1, 1, 1}, {2, 2, 2}}, 10, 100, api.OK},
	{conference6, 5, 125, api.OK},
	{filled(6, 6, 0), 1, 1, api.OK},
	{filled(6, 6, 0), 13, 4826809, api.OK},
	{filled(1, 6, 13), 13, 4826809, api.OK},
	{nil, 0, 0, api.ErrArgument},
	{nil, 14, 0, api.ErrArgument},
	{[][]int{{1}}, 0, 0, api.ErrArgument},
	{[][]int{{1}}, -1, 0, api.ErrArgument},
	{[][]int{{1}}, 14, 0, api.ErrArgument},
	{[][]int{{1}}, math.MinInt, 0, api.ErrArgument},
	{[][]int{{1}}, math.MaxInt, 0, api.ErrArgument},
	{[][]int{{1}}, 1<<32 + 5, 0, api.ErrArgument},
}

// P4.4: Solutions.
func TestSolutions(t *testing.T) {
	for _, c := range solutionsCases {
		if got, e := Solutions(c.m, c.modulus); got != c.want || e != c.e {
			t.Errorf("Solutions(%v, %d) = %d, %d, want %d, %d", c.m, c.modulus, got, e, c.want, c.e)
		}
	}
}

// P4.4: Solutions is the number of vectors that solve the equations.
func TestSolutionsAreCounted(t *testing.T) {
	all := slices.Concat(samples(), tinyMatrices(2, 2, 2), tinyMatrices(1, 3, 2), tinyMatrices(3, 1, 2))
	for _, m := range all {
		for modulus := 1; modulus <= api.MaxModulus; modulus++ {
			if math.Pow(float64(modulus), float64(width(m))) > 5000 {
				break
			}
			want := plainSolutions(m, modulus)
			if got, e := Solutions(m, modulus); got != want || e != api.OK {
				t.Errorf("Solutions(%v, %d) = %d, %d, want %d", m, modulus, got, e, want)
			}
		}
	}
}
