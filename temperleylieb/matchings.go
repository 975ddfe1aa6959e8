package temperleylieb

import (
	"slices"

	"timbrel/api"
)

// none is in the place of a point where there is no connection.
const none = -1

func isSize(n int) bool {
	return n >= 1 && n <= api.MaxStrands
}

// unconnected returns a list of points none of which is connected.
func unconnected(points int) []int {
	return slices.Repeat([]int{none}, points)
}

// connect connects two points with each other.
func connect(d []int, i, j int) {
	d[i], d[j] = j, i
}

// isMatching reports whether d connects 2n points in pairs.
func isMatching(n int, d []int) bool {
	if len(d) != 2*n {
		return false
	}
	for i, x := range d {
		if x < 0 || x >= len(d) || x == i || d[x] != i {
			return false
		}
	}
	return true
}

// isPlanar reports whether the points that are connected can be so without crossings. Others do not matter.
func isPlanar(n int, d []int) bool {
	// On a walk around all points, lines that do not cross end in the opposite order of their beginnings.
	var open []int
	for step := range d {
		i := pointAround(n, step)
		if d[i] == none {
			continue
		}
		if last := len(open) - 1; last >= 0 && open[last] == d[i] {
			open = open[:last]
		} else {
			open = append(open, i)
		}
	}
	return len(open) == 0
}

// pointAround returns the point that a walk around all points reaches at a step: it passes the upper row from left to right, then the lower row from right to left.
func pointAround(n, step int) int {
	if step < n {
		return step
	}
	return 3*n - 1 - step
}

// completions returns all planar matchings in which the points that are connected in d are connected like there, in lexicographic order. It leaves d as it was.
func completions(n int, d []int) [][]int {
	i := slices.Index(d, none)
	if i < 0 {
		return [][]int{slices.Clone(d)}
	}
	var all [][]int
	for j := i + 1; j < len(d); j++ {
		if d[j] != none {
			continue
		}
		connect(d, i, j)
		if isPlanar(n, d) {
			all = append(all, completions(n, d)...)
		}
		d[i], d[j] = none, none
	}
	return all
}
