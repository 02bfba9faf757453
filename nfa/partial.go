package nfa

import (
	"slices"

	"semigroup/api"
	"semigroup/expr"
)

// Partial returns the automaton of partial derivatives.
func Partial(e api.Expr, letters int) (api.NFA, api.Errno) {
	why := validate(e, letters)
	if why != api.OK {
		return api.NFA{}, why
	}
	s := &search{letters: letters}
	s.states = append(s.states, s.split(expr.Normal(e)))
	for s.pending() {
		why = s.process()
		if why != api.OK {
			return api.NFA{}, why
		}
	}
	return build(s.table, s.final()), api.OK
}

// search is the search for the states of an automaton of partial derivatives. All states are concatenations of parts of
// the first one, which are its factors. An expression is a list of the numbers of factors here: the lists are equal exactly
// if the expressions are, and much shorter.
type search struct {
	letters int
	factors []factor
	states  [][]int
	table   [][]uint64 // for each state that is processed, and each letter, the states of the partial derivatives
}

// factor is an expression in normal form that is neither OpUnit nor a concatenation.
type factor struct {
	whole    api.Expr
	nullable bool
	partials [][][]int // for each letter the partial derivatives
}

// split returns the factors of an expression in normal form.
func (s *search) split(e api.Expr) []int {
	switch e.Op {
	case api.OpUnit:
		return nil
	case api.OpConcat:
		list := make([]int, len(e.Kids))
		for i := range len(e.Kids) {
			list[i] = s.number(e.Kids[i])
		}
		return list
	}
	return []int{s.number(e)}
}

// join returns the expression that a list of factors stands for.
func (s *search) join(list []int) api.Expr {
	kids := make([]api.Expr, len(list))
	for i, number := range list {
		kids[i] = s.factors[number].whole
	}
	return expr.Combine(api.OpConcat, kids...)
}

// number returns the number of a factor, which is added if it is new.
func (s *search) number(e api.Expr) int {
	for i := range s.factors {
		if expr.Compare(s.factors[i].whole, e) == 0 {
			return i
		}
	}
	number := len(s.factors)
	s.factors = append(s.factors, factor{whole: e, nullable: expr.Nullable(e)})
	s.factors[number].partials = s.partials(e, number)
	return number
}

// partials returns the partial derivatives of the factor e by all letters. OpEmpty is never one of them: in a normal form
// it is part of nothing but complements.
func (s *search) partials(e api.Expr, number int) [][][]int {
	all := make([][][]int, s.letters)
	if e.Op == api.OpLetter {
		all[e.Letter] = [][]int{{}} // no factors: OpUnit
	}
	for i := range len(e.Kids) {
		kid := s.split(e.Kids[i])
		for letter := range all {
			all[letter] = append(all[letter], s.derive(kid, letter)...)
		}
	}
	if e.Op == api.OpStar {
		for letter := range all {
			all[letter] = before(all[letter], []int{number})
		}
	}
	return all
}

// derive returns the partial derivatives of a list of factors, each of them once.
func (s *search) derive(list []int, letter int) [][]int {
	var all [][]int
	for i, number := range list {
		all = append(all, before(s.factors[number].partials[letter], list[i+1:])...)
		if !s.factors[number].nullable {
			break
		}
	}
	slices.SortFunc(all, slices.Compare[[]int])
	return slices.CompactFunc(all, slices.Equal[[]int])
}

// before puts each of some lists of factors before another one.
func before(lists [][]int, rest []int) [][]int {
	all := make([][]int, len(lists))
	for i := range lists {
		all[i] = slices.Concat(lists[i], rest)
	}
	return all
}

func (s *search) pending() bool {
	return len(s.table) < len(s.states)
}

// process adds the row of the first state that has none yet.
func (s *search) process() api.Errno {
	state := s.states[len(s.table)]
	row := make([]uint64, s.letters)
	for letter := range row {
		next := s.derive(state, letter)
		s.add(next)
		if len(s.states) > api.MaxNFA {
			return api.ErrLimit
		}
		for _, list := range next {
			row[letter] |= 1 << s.find(list)
		}
	}
	s.table = append(s.table, row)
	return api.OK
}

// add adds those of some different expressions that are not states yet.
func (s *search) add(next [][]int) {
	var fresh [][]int
	for _, list := range next {
		if s.find(list) < 0 {
			fresh = append(fresh, list)
		}
	}
	slices.SortFunc(fresh, func(x, y []int) int { return expr.Compare(s.join(x), s.join(y)) })
	s.states = append(s.states, fresh...)
}

// find returns the number of a state, or -1.
func (s *search) find(list []int) int {
	return slices.IndexFunc(s.states, func(state []int) bool { return slices.Equal(state, list) })
}

// final returns the states that the empty word matches.
func (s *search) final() uint64 {
	var set uint64
	for i, state := range s.states {
		if s.nullable(state) {
			set |= 1 << i
		}
	}
	return set
}

func (s *search) nullable(list []int) bool {
	for _, number := range list {
		if !s.factors[number].nullable {
			return false
		}
	}
	return true
}
