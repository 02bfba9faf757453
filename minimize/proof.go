package minimize

import (
	"semigroup/api"
	"semigroup/dfa"
	"semigroup/partition"
	"semigroup/word"
)

// Prove returns the minimal automaton of d with a proof.
func Prove(d api.DFA) (api.DFA, api.MinProof, api.Errno) {
	if why := dfa.Validate(d); why != api.OK {
		return api.DFA{}, api.MinProof{}, why
	}
	m, number := minimal(d)
	return m, api.MinProof{Map: number, Access: dfa.Access(m), Tests: tests(m)}, api.OK
}

// tests returns words that tell all states of a minimal automaton apart, less of them than there are states.
func tests(m api.DFA) []string {
	list := levels(m)
	classes := partition.Trivial(len(m.Final))
	var words []string
	for state := range m.Final {
		// All states before this one are classes of their own, so that its class has the number of its least state. A word that takes it out of this class leaves the states before it apart.
		if class := classes[state]; class < state {
			w, _ := apart(m, list, class, state)
			words = append(words, w)
			classes = partition.Meet(classes, split(m, w))
		}
	}
	return words
}

// Check reports whether p proves that m is a minimal automaton of d.
func Check(d, m api.DFA, p api.MinProof) bool {
	return valid(d) && valid(m) && d.Letters == m.Letters && mapped(d, m, p.Map) && reached(m, p.Access) && toldApart(m, p.Tests)
}

// mapped reports whether numbers gives states of m to states of d, the start state among them, so that finality and successors agree.
func mapped(d, m api.DFA, numbers []int) bool {
	if len(numbers) != len(d.Final) || numbers[d.Start] != m.Start {
		return false
	}
	for state, to := range numbers {
		if to != -1 && (!below(to, len(m.Final)) || d.Final[state] != m.Final[to] || !follows(d.Next[state], m.Next[to], numbers)) {
			return false
		}
	}
	return true
}

// follows reports whether the successors of a state of d have the successors of its state of m.
func follows(row, images, numbers []int) bool {
	for letter, to := range row {
		if numbers[to] != images[letter] {
			return false
		}
	}
	return true
}

// reached reports whether there is one word for each state, which leads to it.
func reached(m api.DFA, words []string) bool {
	if len(words) != len(m.Final) {
		return false
	}
	for state, w := range words {
		if dfa.Run(m, m.Start, w) != state {
			return false
		}
	}
	return true
}

// toldApart reports whether words, less of them than there are states, tell all states apart.
func toldApart(m api.DFA, words []string) bool {
	states := len(m.Final)
	if len(words) >= states {
		return false
	}
	classes := partition.Trivial(states)
	for _, w := range words {
		if !word.Valid(w, m.Letters) {
			return false
		}
		classes = partition.Meet(classes, split(m, w))
	}
	return partition.Count(classes) == states
}
