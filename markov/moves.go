package markov

import (
	"slices"

	"timbrel/api"
	"timbrel/braid"
)

// move performs a move on a valid word, without the limits for the result.
func move(n int, w []int, m api.Move) (int, []int, api.Errno) {
	switch m.Kind {
	case api.Stabilize:
		return stabilize(n, w, m.Letter)
	case api.Destabilize:
		return destabilize(n, w)
	}
	v, e := rewrite(n, w, m)
	return n, v, e
}

// rewrite performs a move that keeps the number of strands.
func rewrite(n int, w []int, m api.Move) ([]int, api.Errno) {
	switch m.Kind {
	case api.Insert:
		return insert(n, w, m.At, m.Letter)
	case api.Delete:
		return replace(w, m.At, 2, deletion)
	case api.Commute:
		return replace(w, m.At, 2, exchange)
	case api.Slide:
		return replace(w, m.At, 3, slide)
	case api.Conjugate:
		return conjugate(w)
	}
	return nil, api.ErrMalformed
}

// insert inserts a letter and its inverse.
func insert(n int, w []int, at, letter int) ([]int, api.Errno) {
	if at < 0 || at > len(w) || braid.Check(n, []int{letter}) != api.OK {
		return nil, api.ErrArgument
	}
	return slices.Insert(slices.Clone(w), at, letter, -letter), api.OK
}

// replace replaces a part of a word with the given number of letters. The rule returns what takes its place, and whether it applies to this part.
func replace(w []int, at, size int, rule func(part []int) ([]int, bool)) ([]int, api.Errno) {
	// In this form the comparison does not overflow for any index.
	if at < 0 || at > len(w)-size {
		return nil, api.ErrArgument
	}
	part, found := rule(w[at : at+size])
	if !found {
		return nil, api.ErrNotFound
	}
	return slices.Concat(w[:at], part, w[at+size:]), api.OK
}

// deletion is the rule that removes two letters that are inverse to each other.
func deletion(part []int) ([]int, bool) {
	return nil, part[0] == -part[1]
}

// exchange is the rule that exchanges two letters that cross different strands.
func exchange(part []int) ([]int, bool) {
	x, y := part[0], part[1]
	return []int{y, x}, distance(x, y) >= 2
}

// slide is the rule that replaces i, k, i by k, i, k.
func slide(part []int) ([]int, bool) {
	i, k := part[0], part[1]
	found := part[2] == i && (i > 0) == (k > 0) && distance(i, k) == 1
	return []int{k, i, k}, found
}

// distance returns by how much the absolute values of two letters differ.
func distance(x, y int) int {
	d := max(x, -x) - max(y, -y)
	return max(d, -d)
}

// conjugate moves the first letter to the end.
func conjugate(w []int) ([]int, api.Errno) {
	if len(w) == 0 {
		return nil, api.ErrNotFound
	}
	return slices.Concat(w[1:], w[:1]), api.OK
}

// stabilize adds a strand and appends its letter with a sign.
func stabilize(n int, w []int, sign int) (int, []int, api.Errno) {
	if sign != 1 && sign != -1 {
		return 0, nil, api.ErrArgument
	}
	return n + 1, append(slices.Clone(w), sign*n), api.OK
}

// destabilize removes the last strand and the last letter, if no other letter crosses that strand.
func destabilize(n int, w []int) (int, []int, api.Errno) {
	// On one strand there are no letters, so this includes a single strand.
	if len(w) == 0 {
		return 0, nil, api.ErrNotFound
	}
	crosses := func(x int) bool { return max(x, -x) == n-1 }
	last := len(w) - 1
	if slices.IndexFunc(w, crosses) != last {
		return 0, nil, api.ErrNotFound
	}
	return n - 1, slices.Clone(w[:last]), api.OK
}
