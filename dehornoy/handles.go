package dehornoy

import (
	"cmp"
	"slices"
)

// reduceAll deletes pairs and reduces handles until there are none.
func reduceAll(w []int) []int {
	// All pairs are deleted before a handle is looked for, also those behind it: deleting one may remove the end of a handle.
	w = deletePairs(w)
	for begin, end := firstHandle(w); begin >= 0; begin, end = firstHandle(w) {
		w = deletePairs(reduceHandle(w, begin, end))
	}
	return w
}

// deletePairs returns the word that remains without pairs of adjacent letters x, -x.
func deletePairs(w []int) []int {
	var kept []int
	for _, x := range w {
		if last := len(kept) - 1; last >= 0 && kept[last] == -x {
			kept = kept[:last]
		} else {
			kept = append(kept, x)
		}
	}
	return kept
}

// firstHandle returns the places of the first and the last letter of the handle that ends first, or -1 and 0.
func firstHandle(w []int) (int, int) {
	for end := range w {
		if begin := handleBegin(w, end); begin >= 0 {
			return begin, end
		}
	}
	return -1, 0
}

// handleBegin returns the place of the first letter of the handle that ends at the given place, or -1.
func handleBegin(w []int, end int) int {
	begin := end - 1
	for begin >= 0 && index(w[begin]) > index(w[end]) {
		begin--
	}
	if begin >= 0 && w[begin] == -w[end] {
		return begin
	}
	return -1
}

// reduceHandle returns the word in which the handle between two places is reduced.
func reduceHandle(w []int, begin, end int) []int {
	i, s := index(w[begin]), sign(w[begin])
	reduced := slices.Clone(w[:begin])
	for _, y := range w[begin+1 : end] {
		if index(y) == i+1 {
			reduced = append(reduced, -s*(i+1), sign(y)*i, s*(i+1))
		} else {
			reduced = append(reduced, y)
		}
	}
	return append(reduced, w[end+1:]...)
}

// index returns the index of a letter.
func index(x int) int {
	return max(x, -x)
}

// sign returns the sign of a letter.
func sign(x int) int {
	return cmp.Compare(x, 0)
}
