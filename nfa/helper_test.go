package nfa_test

import (
	"math/bits"
	"slices"
	"strings"

	"semigroup/api"
	"semigroup/machine"
)

var edges = machine.Edges

// in reports whether a state belongs to a set.
func in(state int, set uint64) bool {
	return set&(1<<state) != 0
}

// has reports whether n has an edge.
func has(n api.NFA, from, letter, to int) bool {
	return slices.Contains(n.Edges, api.Edge{From: from, Letter: letter, To: to})
}

// runs is the definition of the number of accepting runs.
func runs(n api.NFA, w string) int {
	var from func(state int, w string) int
	from = func(state int, w string) int {
		if w == "" {
			return bits.OnesCount64(n.Final & (1 << state))
		}
		count := 0
		for next := range n.States {
			if has(n, state, int(w[0]-'a'), next) {
				count += from(next, w[1:])
			}
		}
		return count
	}
	count := 0
	for state := range n.States {
		if in(state, n.Start) {
			count += from(state, w)
		}
	}
	return count
}

// backwards reverses a word.
func backwards(w string) string {
	var b strings.Builder
	for i := range w {
		b.WriteByte(w[len(w)-1-i])
	}
	return b.String()
}
