package link

import (
	"testing"

	"timbrel/api"
)

// P16.3: IsKnot.
func TestIsKnot(t *testing.T) {
	for _, c := range []struct {
		name string
		n    int
		w    []int
		want bool
	}{
		{"circle", 1, nil, true},
		{"circle", 1, []int{}, true},
		{"circle", 2, []int{1}, true},
		{"circle", 2, []int{-1}, true},
		{"circle", 6, []int{1, -2, 3, -4, 5}, true},
		{"trefoil", 2, []int{1, 1, 1}, true},
		{"trefoil", 3, []int{2, 1, 2, 1}, true},
		{"figure eight", 3, []int{1, -2, 1, -2}, true},
		{"two circles", 2, nil, false},
		{"two circles", 2, []int{1, -1}, false},
		{"two circles", 3, []int{1}, false},
		{"two circles", 3, []int{-2}, false},
		{"six circles", 6, nil, false},
		{"Hopf link", 2, []int{1, 1}, false},
		{"Whitehead link", 3, []int{1, -2, 1, -2, -2}, false},
		{"Borromean rings", 3, repeat(3, 1, -2), false},
		{"trefoil and circle", 3, []int{1, 1, 1}, false},
		{"a full turn", 6, repeat(6, 1, 2, 3, 4, 5), false},
		{"a half turn", 3, []int{1, 2, 1}, false},
		{"five sixths of a turn", 6, repeat(5, 1, 2, 3, 4, 5), true},
		{"four sixths of a turn", 6, repeat(4, 1, 2, 3, 4, 5), false},
	} {
		if is, e := IsKnot(c.n, c.w); e != api.OK || is != c.want {
			t.Errorf("%s: IsKnot(%d, %v) = %v, %d, want %v", c.name, c.n, c.w, is, e, c.want)
		}
	}
}

// P16.3: words of all lengths up to MaxBraid.
func TestIsKnotFollowsTheDefinition(t *testing.T) {
	knots, all := 0, samples(api.MaxBraid)
	for _, c := range all {
		l := plainComponents(c.n, c.w)
		if is := isKnot(t, c.n, c.w); is != (len(l) == 1) {
			t.Errorf("IsKnot(%d, %v) = %v, but the components are %v", c.n, c.w, is, l)
		}
		if len(l) == 1 {
			knots++
		}
	}
	if knots < 100 || len(all)-knots < 100 {
		t.Errorf("the samples have %d knots in %d words", knots, len(all))
	}
}

// P16.3: the errors of braid.Check.
func TestErrorsOfIsKnot(t *testing.T) {
	for _, c := range commonErrors {
		is, e := IsKnot(c.n, c.w)
		if e != c.want || e != api.OK && is {
			t.Errorf("IsKnot(%d, %v) = %v, %d, want error %d", c.n, c.w, is, e, c.want)
		}
	}
}
