package temperleylieb

import (
	"testing"

	"timbrel/api"
)

// P12.1: Check.
func TestCheck(t *testing.T) {
	for _, c := range checkCases {
		if e := Check(c.n, c.d); e != c.want {
			t.Errorf("Check(%d, %v) = %d, want %d", c.n, c.d, e, c.want)
		}
	}
}

// plainCheck is Check as the chapter states it, for a valid number of points.
func plainCheck(n int, d []int) api.Errno {
	if !plainIsMatching(n, d) || !plainIsPlanar(n, d) {
		return api.ErrMalformed
	}
	return api.OK
}

// P12.1: all lists with few elements.
func TestCheckOfAllShortLists(t *testing.T) {
	all := lists(6, 0, 5)
	for length := range 5 {
		all = append(all, lists(length, -1, length)...)
	}
	for _, d := range all {
		for n := 1; n <= 4; n++ {
			if e, want := Check(n, d), plainCheck(n, d); e != want {
				t.Errorf("Check(%d, %v) = %d, want %d", n, d, e, want)
			}
		}
	}
}

// P12.1: all matchings, planar or not.
func TestCheckOfAllMatchings(t *testing.T) {
	for n := 1; n <= api.MaxStrands; n++ {
		for _, d := range pairings(n) {
			if e, want := Check(n, d), plainCheck(n, d); e != want {
				t.Errorf("Check(%d, %v) = %d, want %d", n, d, e, want)
			}
		}
	}
}

// P12.1: a single element that is changed makes a matching malformed.
func TestCheckOfChangedMatchings(t *testing.T) {
	for n := 1; n <= api.MaxStrands; n++ {
		for _, d := range planar(n) {
			for i, x := range d {
				for y := -1; y <= 2*n; y++ {
					if d[i] = y; y != x && Check(n, d) != api.ErrMalformed {
						t.Errorf("Check(%d, %v) = %d", n, d, Check(n, d))
					}
				}
				d[i] = x
			}
		}
	}
}
