package nfa

import (
	"slices"

	"semigroup/api"
	"semigroup/relation"
	"semigroup/word"
)

const maxRuns = 1 << 31 // the greatest number that Runs returns

// Runs returns the number of accepting runs.
func Runs(n api.NFA, w string) int {
	if !valid(n) || !word.Valid(w, n.Letters) {
		return 0
	}
	counts := make([]int, n.States) // for each state the runs that end there
	for _, q := range relation.Members(n.Start) {
		counts[q] = 1
	}
	for i := range len(w) {
		counts = longer(n, counts, int(w[i]-'a'))
	}
	total := 0
	for _, q := range relation.Members(n.Final) {
		total = add(total, counts[q])
	}
	return total
}

// longer counts the runs that are longer by an edge with a letter.
func longer(n api.NFA, counts []int, letter int) []int {
	next := make([]int, n.States)
	for _, e := range n.Edges {
		if e.Letter == letter {
			next[e.To] = add(next[e.To], counts[e.From])
		}
	}
	return next
}

// add adds numbers of runs, up to the greatest number that counts.
func add(x, y int) int {
	return min(x+y, maxRuns)
}

// Unambiguous reports whether no word has two accepting runs.
func Unambiguous(n api.NFA) bool {
	if !valid(n) {
		return false
	}
	// Two accepting runs for one word differ at a pair of states, to which the word's beginning leads and from which its end leads to final states.
	both := relation.Meet(pairs(n), pairs(Reverse(n)))
	for q, row := range both {
		if row&^(1<<q) != 0 {
			return false
		}
	}
	return true
}

// pairs returns the relation of those states to which runs for the same word lead.
func pairs(n api.NFA) []uint64 {
	found := make([]uint64, n.States)
	for _, q := range relation.Members(n.Start) {
		found[q] = n.Start
	}
	letters := moves(n)
	for {
		all := found
		for _, r := range letters {
			all = relation.Union(all, relation.Compose(relation.Transpose(r), relation.Compose(all, r)))
		}
		if slices.Equal(all, found) {
			return found
		}
		found = all
	}
}

// moves returns for each letter the relation of each state to those to which its edges lead.
func moves(n api.NFA) [][]uint64 {
	letters := make([][]uint64, n.Letters)
	for i := range letters {
		letters[i] = make([]uint64, n.States)
	}
	for _, e := range n.Edges {
		letters[e.Letter][e.From] |= 1 << e.To
	}
	return letters
}
