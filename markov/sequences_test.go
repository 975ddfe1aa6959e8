package markov

import (
	"math"
	"slices"
	"testing"

	"timbrel/api"
	"timbrel/braid"
)

// These write the moves in sequences.
var (
	turn  = api.Move{Kind: api.Conjugate}
	grow  = api.Move{Kind: api.Stabilize, Letter: 1}
	lower = api.Move{Kind: api.Destabilize}
)

func at(kind, index int) api.Move {
	return api.Move{Kind: kind, At: index}
}

func insertion(index, letter int) api.Move {
	return api.Move{Kind: api.Insert, At: index, Letter: letter}
}

func times(k int, moves ...api.Move) []api.Move {
	return slices.Repeat(moves, k)
}

// sequence is a list of moves, the number of those that can be performed, and where they lead.
type sequence struct {
	name      string
	n         int
	w         []int
	moves     []api.Move
	performed int
	wantN     int
	want      []int
}

var sequences = []sequence{
	{"no moves", 1, nil, nil, 0, 1, nil},
	{"no moves", 3, []int{1, -2}, []api.Move{}, 0, 3, []int{1, -2}},
	{"no moves", 6, repeat(30, 5), nil, 0, 6, repeat(30, 5)},
	{"circle", 3, []int{1, 2}, []api.Move{lower, lower}, 2, 1, nil},
	{"circle", 2, []int{-1}, []api.Move{lower, grow}, 2, 2, []int{1}},
	{"circle", 1, nil, times(5, grow), 5, 6, []int{1, 2, 3, 4, 5}},
	{"trefoil", 3, []int{1, 2, 1, 2}, []api.Move{at(api.Slide, 1), turn, turn, turn, lower}, 5, 2, []int{1, 1, 1}},
	{"trefoil", 2, []int{1, 1, 1}, []api.Move{grow, turn, at(api.Slide, 1)}, 3, 3, []int{1, 2, 1, 2}},
	{"three trefoils", 4, []int{1, 3, 1, 3, 1, 3}, []api.Move{at(api.Commute, 1), at(api.Commute, 3), at(api.Commute, 2)}, 3, 4, []int{1, 1, 1, 3, 3, 3}},
	{"pairs", 3, nil, []api.Move{insertion(0, 1), insertion(1, 2), insertion(2, 1), at(api.Delete, 2)}, 4, 3, []int{1, 2, -2, -1}},

	// A move that cannot be performed: the first one, one between others, the last one.
	{"first", 3, []int{1, 2}, []api.Move{at(api.Delete, 0), turn}, 0, 3, []int{1, 2}},
	{"first", 3, []int{1, 2}, []api.Move{{Kind: 8}, turn}, 0, 3, []int{1, 2}},
	{"first", 1, nil, []api.Move{turn, grow}, 0, 1, nil},
	{"between", 3, []int{1, 2}, []api.Move{turn, {Kind: 0}, turn, turn}, 1, 3, []int{2, 1}},
	{"between", 3, []int{1, 2}, []api.Move{turn, lower, turn}, 1, 3, []int{2, 1}},
	{"between", 2, []int{1, 1, 1}, []api.Move{grow, at(api.Slide, 1), turn}, 1, 3, []int{1, 1, 1, 2}},
	{"between", 2, []int{1}, []api.Move{turn, at(api.Delete, math.MaxInt), turn}, 1, 2, []int{1}},
	{"between", 2, []int{1}, []api.Move{turn, insertion(math.MinInt, math.MinInt), turn}, 1, 2, []int{1}},
	{"last", 3, []int{1, 2}, []api.Move{lower, lower, lower}, 2, 1, nil},
	{"last", 1, nil, []api.Move{turn}, 0, 1, nil},
	{"too many strands", 5, nil, []api.Move{grow, grow, turn}, 1, 6, []int{5}},
	{"too many letters", 2, repeat(30, -1), []api.Move{grow, turn}, 0, 2, repeat(30, -1)},
	{"too many letters", 2, repeat(28, 1), []api.Move{insertion(0, -1), insertion(0, 1), turn}, 1, 2, append([]int{-1, 1}, repeat(28, 1)...)},

	// As many moves as there can be.
	{"MaxMoves", 3, []int{1, 2, -1}, times(200, turn), 200, 3, []int{-1, 1, 2}},
	{"MaxMoves", 1, nil, times(100, grow, lower), 200, 1, nil},
	{"MaxMoves", 1, nil, times(200, lower), 0, 1, nil},
	{"MaxMoves", 1, nil, append(times(99, grow, lower), grow, at(api.Delete, 0)), 199, 2, []int{1}},
}

// P17.2: ApplyAll.
func TestApplyAll(t *testing.T) {
	for _, c := range sequences {
		n, w, k, e := ApplyAll(c.n, c.w, c.moves)
		if e != api.OK || n != c.wantN || !slices.Equal(w, c.want) || k != c.performed {
			t.Errorf("%s: ApplyAll(%d, %v, %v) = %d, %v, %d, %d, want %d, %v, %d", c.name, c.n, c.w, c.moves, n, w, k, e, c.wantN, c.want, c.performed)
		}
	}
}

// walks returns words, moves that can be performed from them on, and the words in between.
func walks() (starts []braidCase, moves [][]api.Move, words [][]braidCase) {
	var s source
	for _, c := range samples(20) {
		m, l := s.walk(c, 30, api.MaxBraid)
		starts, moves, words = append(starts, c), append(moves, m), append(words, l)
	}
	return starts, moves, words
}

// P17.2: the moves are performed one after the other, up to the first one with an error, whichever error it is.
func TestApplyAllOfWalks(t *testing.T) {
	starts, moves, words := walks()
	for i, c := range starts {
		for k := range len(moves[i]) + 1 {
			want := words[i][k]
			n, w, performed, e := ApplyAll(c.n, c.w, moves[i][:k])
			if e != api.OK || !want.equal(braidCase{n, w}) || performed != k {
				t.Fatalf("ApplyAll(%d, %v, %v) = %d, %v, %d, %d, want %v, %d", c.n, c.w, moves[i][:k], n, w, performed, e, want, k)
			}
			for kind := 0; kind <= 8; kind++ {
				m := api.Move{Kind: kind, At: len(want.w) - 1, Letter: want.n - 3}
				if _, _, e := plainApply(want.n, want.w, m); e == api.OK {
					continue
				}
				all := slices.Concat(moves[i][:k], []api.Move{m, turn, grow, lower})
				n, w, performed, e := ApplyAll(c.n, c.w, all)
				if e != api.OK || !want.equal(braidCase{n, w}) || performed != k {
					t.Fatalf("ApplyAll(%d, %v, %v) = %d, %v, %d, %d, want %v, %d", c.n, c.w, all, n, w, performed, e, want, k)
				}
			}
		}
	}
}

// P17.2: the errors of braid.Check, then ErrTooLarge for the number of moves.
func TestErrorsOfApplyAll(t *testing.T) {
	check := func(n int, w []int, moves []api.Move, want api.Errno) {
		t.Helper()
		if m, v, k, e := ApplyAll(n, w, moves); e != want || m != 0 || len(v) != 0 || k != 0 {
			t.Errorf("ApplyAll(%d, %v, %d moves) = %d, %v, %d, %d, want error %d", n, w, len(moves), m, v, k, e, want)
		}
	}
	for _, c := range commonErrors {
		check(c.n, c.w, nil, c.want)
		check(c.n, c.w, []api.Move{grow}, c.want)
		check(c.n, c.w, times(201, turn), c.want)
	}
	for _, m := range []api.Move{turn, lower, {}, {Kind: 99}} {
		check(2, []int{1}, times(201, m), api.ErrTooLarge)
		check(1, nil, times(5000, m), api.ErrTooLarge)
	}
	// The first 200 moves would lead to the last one, or one before would fail.
	check(1, nil, append(times(100, grow, lower), turn), api.ErrTooLarge)
	check(1, nil, append(times(100, grow, lower), grow), api.ErrTooLarge)
}

// P17.2: Connects.
func TestConnects(t *testing.T) {
	for _, c := range sequences {
		want := c.performed == len(c.moves)
		if is, e := Connects(c.n, c.w, c.wantN, c.want, c.moves); e != api.OK || is != want {
			t.Errorf("%s: Connects(%d, %v, %d, %v, %v) = %v, %d, want %v", c.name, c.n, c.w, c.wantN, c.want, c.moves, is, e, want)
		}
		// As far as they can be performed, the moves lead there.
		moves := c.moves[:c.performed]
		if is, e := Connects(c.n, c.w, c.wantN, c.want, moves); e != api.OK || !is {
			t.Errorf("%s: Connects(%d, %v, %d, %v, %v) = %v, %d, want true", c.name, c.n, c.w, c.wantN, c.want, moves, is, e)
		}
	}
}

// P17.2: moves that can all be performed, but lead to another word or another number of strands.
func TestConnectsToOtherWords(t *testing.T) {
	for _, c := range []struct {
		n     int
		a     []int
		m     int
		b     []int
		moves []api.Move
	}{
		{1, nil, 2, nil, nil},
		{2, []int{1}, 3, []int{1}, nil},
		{3, []int{1}, 2, []int{1}, nil},
		{2, []int{1}, 2, []int{-1}, nil},
		{2, []int{1}, 2, nil, nil},
		{2, nil, 2, []int{1}, nil},
		{3, []int{1, 2}, 3, []int{2, 1}, nil},
		{3, []int{1, 2}, 3, []int{2, 1}, times(2, turn)},
		{3, []int{1, 2}, 3, []int{1, 2}, times(1, turn)},
		{3, []int{1, 1}, 3, []int{1, 1, 1}, times(2, turn)},
		{3, []int{1, 1, 1}, 3, []int{1, 1}, times(2, turn)},
		{1, nil, 2, []int{-1}, times(1, grow)},
		{2, []int{1}, 2, nil, times(1, lower)},

		// Words that are equal as braids, but not letter by letter.
		{2, []int{1, -1}, 2, nil, nil},
		{4, []int{1, 3}, 4, []int{3, 1}, nil},
		{3, []int{1, 2, 1}, 3, []int{2, 1, 2}, nil},
		{3, []int{1, 2, 1}, 3, []int{1, 2, 1}, times(1, at(api.Slide, 0))},
	} {
		if is, e := Connects(c.n, c.a, c.m, c.b, c.moves); e != api.OK || is {
			t.Errorf("Connects(%d, %v, %d, %v, %v) = %v, %d, want false", c.n, c.a, c.m, c.b, c.moves, is, e)
		}
	}
}

// P17.2: moves lead to the word that ApplyAll returns, and to no other one.
func TestConnectsOfWalks(t *testing.T) {
	starts, moves, words := walks()
	for i, c := range starts {
		end := words[i][len(moves[i])]
		for k, d := range slices.Concat(words[i], others(end)) {
			if braid.Check(d.n, d.w) != api.OK {
				continue
			}
			want := d.equal(end)
			if is, e := Connects(c.n, c.w, d.n, d.w, moves[i]); e != api.OK || is != want {
				t.Errorf("Connects(%d, %v, %d, %v, %v) = %v, %d, want %v (word %d)", c.n, c.w, d.n, d.w, moves[i], is, e, want, k)
			}
		}
	}
}

// others returns words that differ a bit from a given one. They need not be valid.
func others(c braidCase) []braidCase {
	all := []braidCase{{c.n + 1, c.w}, {c.n - 1, c.w}, {c.n, append(slices.Clone(c.w), 1)}}
	for i := range c.w {
		w := slices.Clone(c.w)
		w[i] = -w[i]
		all = append(all, braidCase{c.n, w}, braidCase{c.n, slices.Delete(slices.Clone(c.w), i, i+1)})
	}
	return all
}

// P17.2: the errors of braid.Check for the first word, then for the second one, then ErrTooLarge for the number of moves.
func TestErrorsOfConnects(t *testing.T) {
	check := func(n int, a []int, m int, b []int, moves []api.Move, want api.Errno) {
		t.Helper()
		if is, e := Connects(n, a, m, b, moves); e != want || is {
			t.Errorf("Connects(%d, %v, %d, %v, %d moves) = %v, %d, want error %d", n, a, m, b, len(moves), is, e, want)
		}
	}
	for _, c := range commonErrors {
		for _, moves := range [][]api.Move{nil, {turn}, {{Kind: 8}}, times(201, turn)} {
			check(c.n, c.w, 2, []int{1}, moves, c.want)
			check(2, []int{1}, c.n, c.w, moves, c.want)
			for _, d := range commonErrors {
				check(c.n, c.w, d.n, d.w, moves, c.want)
			}
		}
	}
	check(2, []int{1}, 2, []int{1}, times(201, turn), api.ErrTooLarge)
	check(1, nil, 1, nil, times(201, lower), api.ErrTooLarge)
	check(1, nil, 2, []int{1}, times(5000, grow), api.ErrTooLarge)
	check(1, nil, 1, nil, append(times(100, grow, lower), turn), api.ErrTooLarge)
}
