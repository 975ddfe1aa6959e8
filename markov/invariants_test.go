package markov

import (
	"fmt"
	"slices"
	"testing"

	"timbrel/alexander"
	"timbrel/api"
	"timbrel/coloring"
	"timbrel/jones"
	"timbrel/link"
)

// The moves change the braid, but not the link: the invariants of chapters 13 to 16 stay the same.

// invariants returns what belongs to the link, as far as the word is short enough for the polynomials.
func invariants(t *testing.T, c braidCase) map[string]string {
	t.Helper()
	all := map[string]string{}
	note := func(name string, value any, e api.Errno) {
		t.Helper()
		if e != api.OK {
			t.Fatalf("%s of %v: error %d", name, c, e)
		}
		all[name] = fmt.Sprint(value)
	}
	if len(c.w) <= api.MaxBracket {
		p, e := jones.Polynomial(c.n, c.w)
		note("Jones polynomial", p, e)
	}
	if len(c.w) <= api.MaxAlexander {
		p, e := alexander.Polynomial(c.n, c.w)
		note("Alexander polynomial", p, e)
	}
	for modulus := 1; modulus <= api.MaxModulus; modulus++ {
		k, e := coloring.Count(c.n, c.w, modulus)
		note(fmt.Sprint("colorings modulo ", modulus), k, e)
	}
	l, e := link.Components(c.n, c.w)
	note("number of components", len(l), e)
	rows, e := link.LinkingNumbers(c.n, c.w)
	note("linking numbers", betweenComponents(rows), e)
	return all
}

// betweenComponents returns the linking numbers of different components in increasing order, because the order of the components may change.
func betweenComponents(rows [][]int) []int {
	var all []int
	for i, row := range rows {
		all = append(all, row[:i]...)
	}
	slices.Sort(all)
	return all
}

// P17.1, P17.2: sequences of moves within the limits of the polynomials, so that all invariants are compared.
func TestMovesKeepTheLink(t *testing.T) {
	var s source
	performed := map[int]int{}
	for _, length := range []int{api.MaxBracket, api.MaxAlexander, api.MaxBraid} {
		for _, c := range samples(length) {
			if s.below(4) > 0 {
				continue
			}
			moves, _ := s.walk(c, 60, length)
			n, w, k, e := ApplyAll(c.n, c.w, moves)
			if e != api.OK || k != len(moves) {
				t.Fatalf("ApplyAll(%d, %v, %v) = %d, %v, %d, %d", c.n, c.w, moves, n, w, k, e)
			}
			want, got := invariants(t, c), invariants(t, braidCase{n, w})
			for name, value := range got {
				if before, found := want[name]; found && value != before {
					t.Errorf("%s: %s for %v, but %s for %d, %v after %v", name, before, c, value, n, w, moves)
				}
			}
			for _, m := range moves {
				performed[m.Kind]++
			}
		}
	}
	for kind := api.Insert; kind <= api.Destabilize; kind++ {
		if performed[kind] < 20 {
			t.Errorf("the kind %d was performed %d times", kind, performed[kind])
		}
	}
}

// P17.2: known moves between braids of known links, letter by letter.
func TestConnectsKnownLinks(t *testing.T) {
	for _, c := range []struct {
		name  string
		n     int
		a     []int
		m     int
		b     []int
		moves []api.Move
	}{
		{"circle", 6, []int{1, -2, 3, -4, 5}, 1, nil, times(5, lower)},
		{"circle", 3, []int{1, 2, -2, 2}, 1, nil, []api.Move{at(api.Delete, 1), lower, lower}},
		{"trefoil", 3, []int{1, 2, 1, 1}, 2, []int{1, 1, 1}, []api.Move{turn, turn, lower}},
		{"trefoil", 3, []int{1, 1, 1, 2}, 3, []int{1, 2, 2, 2}, []api.Move{turn, turn, at(api.Slide, 0), at(api.Slide, 1), turn, turn}},
		{"figure eight", 3, []int{1, -2, 1, -2}, 4, []int{-2, 1, -2, 3, 1}, []api.Move{turn, grow, at(api.Commute, 3)}},
		{"Hopf link", 3, []int{1, 2, 1}, 2, []int{1, 1}, []api.Move{turn, turn, lower}},
	} {
		want := invariants(t, braidCase{c.n, c.a})
		if got := invariants(t, braidCase{c.m, c.b}); fmt.Sprint(got) != fmt.Sprint(want) {
			t.Errorf("%s: %v and %v are different links", c.name, c.a, c.b)
		}
		if is, e := Connects(c.n, c.a, c.m, c.b, c.moves); e != api.OK || !is {
			n, w, k, _ := ApplyAll(c.n, c.a, c.moves)
			t.Errorf("%s: Connects(%d, %v, %d, %v, %v) = %v, %d; ApplyAll leads to %d, %v, %d", c.name, c.n, c.a, c.m, c.b, c.moves, is, e, n, w, k)
		}
	}
}
