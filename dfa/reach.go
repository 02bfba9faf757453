package dfa

import (
	"slices"

	"semigroup/api"
	"semigroup/nfa"
	"semigroup/relation"
)

// Trim returns the reachable part in canonical order.
func Trim(d api.DFA) (api.DFA, []int) {
	if !valid(d) {
		return api.DFA{}, nil
	}
	step := func(state, letter int) int { return d.Next[state][letter] }
	final := func(state int) bool { return d.Final[state] }
	t, old, _ := reach(d.Letters, d.Start, step, final)
	number := slices.Repeat([]int{-1}, len(d.Final))
	for state, was := range old {
		number[was] = state
	}
	return t, number
}

// Access returns the least words of the reachable states.
func Access(d api.DFA) []string {
	t, _ := Trim(d)
	words := make([]string, len(t.Final))
	met := 1
	for state, row := range t.Next {
		for letter, to := range row {
			// The search meets the states in the order of their least words, and their numbers show when it does.
			if to == met {
				words[to] = words[state] + string(rune('a'+letter))
				met++
			}
		}
	}
	return words
}

// Subset returns the subset automaton.
func Subset(n api.NFA) (api.DFA, []uint64, api.Errno) {
	if why := nfa.Validate(n); why != api.OK {
		return api.DFA{}, nil, why
	}
	// One relation for each letter: nfa.Step would go through all edges each time.
	next := make([][]uint64, n.Letters)
	for letter := range next {
		next[letter] = make([]uint64, n.States)
	}
	for _, e := range n.Edges {
		next[e.Letter][e.From] |= 1 << e.To
	}
	step := func(set uint64, letter int) uint64 { return relation.Image(next[letter], set) }
	final := func(set uint64) bool { return set&n.Final != 0 }
	d, sets, ok := reach(n.Letters, n.Start, step, final)
	if !ok {
		return api.DFA{}, nil, api.ErrLimit
	}
	return d, sets, api.OK
}

// pair is a state of each of two automata.
type pair struct {
	p, q int
}

// Product combines two automata by a Boolean operation.
func Product(a, b api.DFA, op int) (api.DFA, api.Errno) {
	for _, d := range [...]api.DFA{a, b} {
		if why := Validate(d); why != api.OK {
			return api.DFA{}, why
		}
	}
	if a.Letters != b.Letters || op < 0 || op > 15 {
		return api.DFA{}, api.ErrArg
	}
	step := func(at pair, letter int) pair { return pair{a.Next[at.p][letter], b.Next[at.q][letter]} }
	final := func(at pair) bool { return op>>(2*bit(a.Final[at.p])+bit(b.Final[at.q]))&1 == 1 }
	d, _, ok := reach(a.Letters, pair{a.Start, b.Start}, step, final)
	if !ok {
		return api.DFA{}, api.ErrLimit
	}
	return d, api.OK
}

func bit(x bool) int {
	if x {
		return 1
	}
	return 0
}

// reach returns the automaton of everything that steps lead to from start, numbered in breadth-first order, and what its states stand for. It returns false if there are more than MaxDFA states.
func reach[T comparable](letters int, start T, step func(from T, letter int) T, final func(T) bool) (api.DFA, []T, bool) {
	d := api.DFA{Letters: letters}
	queue := []T{start} // nothing is taken out of it, since the places in it are the numbers
	number := map[T]int{start: 0}
	for i := 0; i < len(queue); i++ {
		row := make([]int, letters)
		for letter := range row {
			to := step(queue[i], letter)
			state, met := number[to]
			if !met {
				state = len(queue)
				number[to] = state
				queue = append(queue, to)
			}
			row[letter] = state
		}
		if len(queue) > api.MaxDFA {
			return api.DFA{}, nil, false
		}
		d.Final = append(d.Final, final(queue[i]))
		d.Next = append(d.Next, row)
	}
	return d, queue, true
}
