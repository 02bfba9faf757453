// Package machine makes and compares automata, by their definitions. Only tests use it.
package machine

import (
	"math"
	"slices"

	"semigroup/api"
	"semigroup/tree"
)

// SameDFA compares two automata, field by field.
func SameDFA(a, b api.DFA) bool {
	return a.Letters == b.Letters && a.Start == b.Start && slices.Equal(a.Final, b.Final) && slices.EqualFunc(a.Next, b.Next, slices.Equal[[]int])
}

// State follows a word from a state.
func State(d api.DFA, state int, w string) int {
	for i := range len(w) {
		state = d.Next[state][w[i]-'a']
	}
	return state
}

// Accepts reports whether a word leads from the start state to a final state.
func Accepts(d api.DFA, w string) bool {
	return d.Final[State(d, d.Start, w)]
}

// DFA makes the automaton with the given successors.
func DFA(letters, start int, final []bool, next func(state, letter int) int) api.DFA {
	d := api.DFA{Letters: letters, Start: start, Final: final}
	for state := range final {
		row := make([]int, letters)
		for letter := range row {
			row[letter] = next(state, letter)
		}
		d.Next = append(d.Next, row)
	}
	return d
}

// Cycle makes the automaton in which the given letter leads to the next state, and the last state to the first one, while the other letters change nothing. State 0 is the start state, and final alone.
func Cycle(letters, states, letter int) api.DFA {
	final := make([]bool, states)
	final[0] = true
	return DFA(letters, 0, final, func(state, other int) int {
		if other == letter {
			return (state + 1) % states
		}
		return state
	})
}

// Odd accepts the words over two letters with an odd number of a.
func Odd() api.DFA {
	return api.DFA{Letters: 2, Final: []bool{false, true}, Next: [][]int{{1, 0}, {0, 1}}}
}

// Whole accepts all words, or none, with one state.
func Whole(letters int, accepted bool) api.DFA {
	return DFA(letters, 0, []bool{accepted}, func(state, letter int) int { return 0 })
}

// Far makes the automaton in which each letter leads to the next state, but nothing leads away from the last one, which is final alone.
func Far(letters, states int) api.DFA {
	final := make([]bool, states)
	final[states-1] = true
	return DFA(letters, 0, final, func(state, letter int) int { return min(state+1, states-1) })
}

// AllDFA lists all automata with so many letters and states.
func AllDFA(letters, states int) []api.DFA {
	tables := 1
	for range letters * states {
		tables *= states
	}
	var list []api.DFA
	for table := range tables {
		for code := range 1 << states {
			for start := range states {
				final := make([]bool, states)
				for state := range final {
					final[state] = code>>state&1 == 1
				}
				rest := table
				list = append(list, DFA(letters, start, final, func(state, letter int) int {
					to := rest % states
					rest /= states
					return to
				}))
			}
		}
	}
	return list
}

// FewDFA lists all automata with one letter or two and at most three states, or with three letters and at most two states.
func FewDFA() []api.DFA {
	return slices.Concat(AllDFA(1, 1), AllDFA(1, 2), AllDFA(1, 3), AllDFA(2, 1), AllDFA(2, 2), AllDFA(2, 3), AllDFA(3, 1), AllDFA(3, 2))
}

// RandomDFA makes an automaton in which about one of sparse states is final.
func RandomDFA(s *tree.Source, letters, states, sparse int) api.DFA {
	final := make([]bool, states)
	for state := range final {
		final[state] = s.Below(sparse) == 0
	}
	return DFA(letters, s.Below(states), final, func(state, letter int) int { return s.Below(states) })
}

// Forward makes an automaton that accepts finitely many words: each letter leads at most far states on, but from the last state, which is not final, nothing leads away.
func Forward(s *tree.Source, letters, states, sparse, far int) api.DFA {
	d := RandomDFA(s, letters, states, sparse)
	for state, row := range d.Next {
		for letter := range row {
			row[letter] = min(state+1+s.Below(far), states-1)
		}
	}
	d.Start, d.Final[states-1] = 0, false
	return d
}

// Shuffled numbers the states of an automaton in another way.
func Shuffled(s *tree.Source, d api.DFA) api.DFA {
	number := make([]int, len(d.Final))
	for i := range number {
		j := s.Below(i + 1)
		number[i] = number[j]
		number[j] = i
	}
	c := api.DFA{Letters: d.Letters, Start: number[d.Start], Final: make([]bool, len(number)), Next: make([][]int, len(number))}
	for state, row := range d.Next {
		c.Final[number[state]] = d.Final[state]
		for _, to := range row {
			c.Next[number[state]] = append(c.Next[number[state]], number[to])
		}
	}
	return c
}

// Doubled gives each state of an automaton a twin; each transition leads to some twin of the state that it led to.
func Doubled(s *tree.Source, d api.DFA) api.DFA {
	states := len(d.Final)
	return DFA(d.Letters, d.Start+states*s.Below(2), slices.Concat(d.Final, d.Final), func(state, letter int) int {
		return d.Next[state%states][letter] + states*s.Below(2)
	})
}

// ScatteredDFA lists automata of all sizes: random ones, some of them with few successors or with a single one that leads to most states, and those that accept finitely many words.
func ScatteredDFA(count int) []api.DFA {
	var list []api.DFA
	for i := range count {
		s := tree.Source(i)
		states := 1 + i*(api.MaxDFA-1)/max(count-1, 1)
		letters := 1 + s.Below(api.MaxLetters)
		var d api.DFA
		switch i % 3 {
		case 0:
			d = RandomDFA(&s, letters, states, 1+s.Below(2*states))
		case 1:
			d = Forward(&s, letters, states, 1+s.Below(2*states), 1+s.Below(4))
		case 2:
			d = Forward(&s, letters, states, 1+s.Below(states), 1+s.Below(4))
			d.Next[s.Below(states)][s.Below(letters)] = s.Below(states)
		}
		list = append(list, Shuffled(&s, d))
	}
	return list
}

// WrongDFA is an automaton that is not valid, with the error of dfa.Validate.
type WrongDFA struct {
	D   api.DFA
	Why api.Errno
}

// WrongDFAs lists automata that differ from a valid one, so that one field or two are wrong.
func WrongDFAs() []WrongDFA {
	var list []WrongDFA
	add := func(why api.Errno, edit func(d *api.DFA)) {
		d := api.DFA{Letters: 2, Start: 1, Final: []bool{true, false, true}, Next: [][]int{{1, 2}, {0, 0}, {2, 1}}}
		edit(&d)
		list = append(list, WrongDFA{d, why})
	}
	for _, x := range []int{math.MinInt, -1, 0, api.MaxLetters + 1, 1<<32 + 2, math.MaxInt} {
		add(api.ErrArg, func(d *api.DFA) { d.Letters = x })
		add(api.ErrArg, func(d *api.DFA) { d.Letters, d.Final, d.Next = x, nil, nil })
		add(api.ErrArg, func(d *api.DFA) { d.Letters, d.Start = x, -1 })
		add(api.ErrArg, func(d *api.DFA) { d.Letters, d.Final = x, make([]bool, api.MaxDFA+1) })
	}
	for _, x := range []int{api.MaxDFA + 1, api.MaxDFA + 2, 1 << 16} {
		add(api.ErrLimit, func(d *api.DFA) { d.Final = make([]bool, x) })
		add(api.ErrLimit, func(d *api.DFA) { *d = Cycle(2, x, 0) })
		add(api.ErrLimit, func(d *api.DFA) { *d = Cycle(1, x, 0); d.Start = -1 })
		add(api.ErrLimit, func(d *api.DFA) { *d = Cycle(1, x, 0); d.Next[5] = nil })
	}
	for _, x := range []int{math.MinInt, -1, 3, 64, 1 << 32, math.MaxInt} {
		add(api.ErrShape, func(d *api.DFA) { d.Start = x })
		for state := range 3 {
			for letter := range 2 {
				add(api.ErrShape, func(d *api.DFA) { d.Next[state][letter] = x })
			}
		}
	}
	for state := range 3 {
		add(api.ErrShape, func(d *api.DFA) { d.Next[state] = nil })
		add(api.ErrShape, func(d *api.DFA) { d.Next[state] = d.Next[state][:1] })
		add(api.ErrShape, func(d *api.DFA) { d.Next[state] = append(d.Next[state], 0) })
		add(api.ErrShape, func(d *api.DFA) { d.Next = slices.Delete(d.Next, state, state+1) })
		add(api.ErrShape, func(d *api.DFA) { d.Next = slices.Insert(d.Next, state, []int{0, 0}) })
	}
	add(api.ErrShape, func(d *api.DFA) { d.Next = nil })
	add(api.ErrShape, func(d *api.DFA) { d.Next = make([][]int, 3) })
	add(api.ErrShape, func(d *api.DFA) { d.Next = slices.Repeat(d.Next, api.MaxDFA) })
	add(api.ErrShape, func(d *api.DFA) { d.Final = nil })
	add(api.ErrShape, func(d *api.DFA) { d.Start, d.Final, d.Next = 0, nil, nil })
	add(api.ErrShape, func(d *api.DFA) { d.Start, d.Final, d.Next = -1, nil, nil })
	add(api.ErrShape, func(d *api.DFA) { d.Final = append(d.Final, true) })
	add(api.ErrShape, func(d *api.DFA) { d.Final = d.Final[:2] })
	add(api.ErrShape, func(d *api.DFA) { d.Final = make([]bool, api.MaxDFA) })
	add(api.ErrShape, func(d *api.DFA) { d.Letters = 1 })
	add(api.ErrShape, func(d *api.DFA) { d.Letters = 3 })
	return list
}

// SpareDFA gives each list of an automaton some capacity behind its end, with what is no part of an automaton.
func SpareDFA(d api.DFA) api.DFA {
	next := make([][]int, 0, len(d.Next)+2)
	for _, row := range d.Next {
		next = append(next, append(slices.Clone(row), -7, -8)[:len(row)])
	}
	d.Next = append(next, []int{77}, []int{78})[:len(d.Next)]
	d.Final = append(slices.Clone(d.Final), true, false, true)[:len(d.Final)]
	return d
}

// CloneDFA copies an automaton, with what lies behind its lists.
func CloneDFA(d api.DFA) api.DFA {
	next := make([][]int, cap(d.Next))
	for i, row := range d.Next[:cap(d.Next)] {
		next[i] = slices.Clone(row[:cap(row)])[:len(row)]
	}
	d.Next = next[:len(d.Next)]
	d.Final = slices.Clone(d.Final[:cap(d.Final)])[:len(d.Final)]
	return d
}

// UntouchedDFA compares an automaton with its copy.
func UntouchedDFA(d, copied api.DFA) bool {
	whole := func(d api.DFA, of api.DFA) api.DFA {
		next := slices.Clone(d.Next[:cap(of.Next)])
		for i, row := range of.Next[:cap(of.Next)] {
			next[i] = next[i][:cap(row)]
		}
		d.Next, d.Final = next, d.Final[:cap(of.Final)]
		return d
	}
	return SameDFA(d, copied) && SameDFA(whole(d, d), whole(copied, d))
}

// ScribbleDFA writes over an automaton.
func ScribbleDFA(d api.DFA) {
	for i, row := range d.Next {
		for letter := range row[:cap(row)] {
			row[:cap(row)][letter] = 99
		}
		d.Next[i] = nil
	}
	final := d.Final[:cap(d.Final)]
	for state := range final {
		final[state] = !final[state]
	}
}
