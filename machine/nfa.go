package machine

import (
	"math"
	"slices"

	"semigroup/api"
	"semigroup/tree"
)

// Edges makes a list of edges of triples: from, letter, to.
func Edges(triples ...[3]int) []api.Edge {
	var list []api.Edge
	for _, x := range triples {
		list = append(list, api.Edge{From: x[0], Letter: x[1], To: x[2]})
	}
	return list
}

// SameNFA compares two automata, field by field.
func SameNFA(a, b api.NFA) bool {
	return a.Letters == b.Letters && a.States == b.States && a.Start == b.Start && a.Final == b.Final && slices.Equal(a.Edges, b.Edges)
}

// NFA makes the automaton with those edges of which edge is true.
func NFA(letters, states int, start, final uint64, edge func(from, letter, to int) bool) api.NFA {
	n := api.NFA{Letters: letters, States: states, Start: start, Final: final}
	for from := range states {
		for letter := range letters {
			for to := range states {
				if edge(from, letter, to) {
					n.Edges = append(n.Edges, api.Edge{From: from, Letter: letter, To: to})
				}
			}
		}
	}
	return n
}

// AllNFA lists all automata with so many letters and states.
func AllNFA(letters, states int) []api.NFA {
	var list []api.NFA
	sets := uint64(1) << states
	for code := range 1 << (states * letters * states) {
		edge := func(from, letter, to int) bool { return code>>((from*letters+letter)*states+to)&1 == 1 }
		for start := range sets {
			for final := range sets {
				list = append(list, NFA(letters, states, start, final, edge))
			}
		}
	}
	return list
}

// FewNFA lists all automata with one letter and at most three states, or with two letters and at most two states.
func FewNFA() []api.NFA {
	return slices.Concat(AllNFA(1, 0), AllNFA(1, 1), AllNFA(1, 2), AllNFA(1, 3), AllNFA(2, 0), AllNFA(2, 1), AllNFA(2, 2))
}

// RandomNFA makes an automaton in which about one of sparse possible edges is there.
func RandomNFA(s *tree.Source, letters, states, sparse int) api.NFA {
	set := func() uint64 {
		var set uint64
		for range 1 + states/8 {
			set |= 1 << s.Below(max(states, 1))
		}
		return set & (1<<states - 1)
	}
	return NFA(letters, states, set(), set(), func(from, letter, to int) bool { return s.Below(sparse) == 0 })
}

// ScatteredNFA lists automata of all sizes.
func ScatteredNFA(count int) []api.NFA {
	var list []api.NFA
	for i := range count {
		s := tree.Source(i)
		states := i * api.MaxNFA / max(count-1, 1)
		list = append(list, RandomNFA(&s, 1+s.Below(api.MaxLetters), states, 1+s.Below(4*states+1)))
	}
	return list
}

// WrongNFA is an automaton that is not valid, with the error of nfa.Validate.
type WrongNFA struct {
	N   api.NFA
	Why api.Errno
}

// ThreeStates accepts all words over two letters, by runs through all of its three states, some of them by several.
func ThreeStates() api.NFA {
	return api.NFA{Letters: 2, States: 3, Start: 5, Final: 7, Edges: Edges([3]int{0, 0, 0}, [3]int{0, 0, 1}, [3]int{0, 1, 2}, [3]int{1, 0, 2}, [3]int{1, 1, 0}, [3]int{2, 0, 0}, [3]int{2, 1, 1})}
}

// WrongNFAs lists automata that differ from a valid one, so that one field or two are wrong.
func WrongNFAs() []WrongNFA {
	var list []WrongNFA
	add := func(why api.Errno, edit func(n *api.NFA)) {
		n := ThreeStates()
		edit(&n)
		list = append(list, WrongNFA{n, why})
	}
	for _, x := range []int{math.MinInt, -1, 0, api.MaxLetters + 1, 1<<32 + 2, math.MaxInt} {
		add(api.ErrArg, func(n *api.NFA) { n.Letters = x })
		add(api.ErrArg, func(n *api.NFA) { n.Letters, n.Edges = x, nil })
		add(api.ErrArg, func(n *api.NFA) { n.Letters, n.Start = x, 8 })
		add(api.ErrArg, func(n *api.NFA) { n.Letters, n.Edges[0].From = x, -1 })
	}
	for _, x := range []int{math.MinInt, -64, -1, api.MaxNFA + 1, 1<<32 + 3, math.MaxInt} {
		add(api.ErrArg, func(n *api.NFA) { n.States = x })
		add(api.ErrArg, func(n *api.NFA) { n.States, n.Final = x, 1<<63 })
		add(api.ErrArg, func(n *api.NFA) { n.States, n.Edges[1] = x, n.Edges[0] })
	}
	add(api.ErrShape, func(n *api.NFA) { n.Letters = 1 })
	add(api.ErrShape, func(n *api.NFA) { n.States = 2 })
	add(api.ErrShape, func(n *api.NFA) { n.States, n.Edges = 2, nil })
	add(api.ErrShape, func(n *api.NFA) { n.States, n.Start, n.Final = 2, 1, 1 })
	add(api.ErrShape, func(n *api.NFA) { n.States, n.Start, n.Final, n.Edges = 0, 0, 0, n.Edges[:1] })
	for bit := 3; bit < 64; bit += 20 {
		add(api.ErrShape, func(n *api.NFA) { n.Start |= 1 << bit })
		add(api.ErrShape, func(n *api.NFA) { n.Final |= 1 << bit })
	}
	for i := range ThreeStates().Edges {
		for _, x := range []int{math.MinInt, -1, 3, 64, 1 << 32, math.MaxInt} {
			add(api.ErrShape, func(n *api.NFA) { n.Edges[i].From = x })
			add(api.ErrShape, func(n *api.NFA) { n.Edges[i].Letter = x })
			add(api.ErrShape, func(n *api.NFA) { n.Edges[i].To = x })
		}
		add(api.ErrShape, func(n *api.NFA) { n.Edges[i].Letter = 2 })
		add(api.ErrShape, func(n *api.NFA) { n.Edges = slices.Insert(n.Edges, i, n.Edges[i]) })
		if i > 0 {
			add(api.ErrShape, func(n *api.NFA) { n.Edges[i], n.Edges[i-1] = n.Edges[i-1], n.Edges[i] })
			add(api.ErrShape, func(n *api.NFA) { n.Edges = append(n.Edges, n.Edges[i-1]) })
		}
	}
	return list
}

// SpareNFA gives the list of edges some capacity behind its end.
func SpareNFA(n api.NFA) api.NFA {
	n.Edges = append(make([]api.Edge, 0, len(n.Edges)+3), n.Edges...)
	rest := n.Edges[len(n.Edges):cap(n.Edges)]
	for i := range rest {
		rest[i] = api.Edge{From: 77, Letter: i, To: 77}
	}
	return n
}

// CloneNFA copies an automaton, with what lies behind its list.
func CloneNFA(n api.NFA) api.NFA {
	n.Edges = slices.Clone(n.Edges[:cap(n.Edges)])[:len(n.Edges)]
	return n
}

// UntouchedNFA compares an automaton with its copy.
func UntouchedNFA(n, copied api.NFA) bool {
	more := cap(n.Edges)
	return SameNFA(n, copied) && slices.Equal(n.Edges[:more], copied.Edges[:more])
}

// ScribbleNFA writes over an automaton.
func ScribbleNFA(n api.NFA) {
	list := n.Edges[:cap(n.Edges)]
	for i := range list {
		list[i] = api.Edge{From: 99, Letter: 99, To: 99}
	}
}
