package permgroup

import "slices"

// letter is a letter of a word: the number that stands for it, and its value.
type letter struct {
	number int
	value  element
}

// lettersOf returns the letters in the order in which words are compared.
func lettersOf(generators [][]int) []letter {
	var letters []letter
	for i, g := range generators {
		value := elementOf(g)
		letters = append(letters, letter{i + 1, value}, letter{-i - 1, value.inverse()})
	}
	return letters
}

// shortestWord returns the first one of the shortest words with the value p, which is a product of letters.
func shortestWord(letters []letter, p element) []int {
	last := lastLetters(letters, p)
	var word []int
	for p != identity() {
		l := last[p]
		word = append(word, l.number)
		p = p.then(l.value.inverse())
	}
	slices.Reverse(word)
	return word
}

// lastLetters returns, at least for the elements that come before p or are p, the last letter of their first shortest words. The elements come in the order of these words: without its last letter, such a word is the first shortest word of another element, and words that are extended in order by letters in order stay in order.
func lastLetters(letters []letter, p element) map[element]letter {
	last := map[element]letter{identity(): {}}
	found := []element{identity()}
	for i := 0; i < len(found) && found[i] != p; i++ {
		for _, l := range letters {
			next := found[i].then(l.value)
			if _, ok := last[next]; !ok {
				last[next] = l
				found = append(found, next)
			}
		}
	}
	return last
}
