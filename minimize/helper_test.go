package minimize_test

import (
	"fmt"
	"slices"

	"semigroup/api"
	"semigroup/machine"
	"semigroup/tree"
)

// show writes a value for a message: the beginning, if it is large.
func show(x any) string {
	text := fmt.Sprint(x)
	return text[:min(len(text), 300)]
}

// verdict is the least word that tells two states apart, if told is true.
type verdict struct {
	w    string
	told bool
}

// tells reports whether a word leads from exactly one of two states to a final state.
func tells(d api.DFA, p, q int, w string) bool {
	return d.Final[machine.State(d, p, w)] != d.Final[machine.State(d, q, w)]
}

// byWords tries all words of at most as many letters as there are states. (Longer ones tell no more states apart.)
func byWords(d api.DFA) [][]verdict {
	words := tree.Words(d.Letters, len(d.Final))
	table := make([][]verdict, len(d.Final))
	for p := range d.Final {
		for q := range d.Final {
			v := verdict{}
			if i := slices.IndexFunc(words, func(w string) bool { return tells(d, p, q, w) }); i >= 0 {
				v = verdict{words[i], true}
			}
			table[p] = append(table[p], v)
		}
	}
	return table
}

// byLengths fills the table of all pairs by lengths: the least word of a pair is a letter and the least word of the successors, which was found just before.
func byLengths(d api.DFA) [][]verdict {
	states := len(d.Final)
	table := make([][]verdict, states)
	type pair struct{ p, q int }
	var open []pair
	for p := range states {
		table[p] = make([]verdict, states)
		for q := range states {
			table[p][q].told = d.Final[p] != d.Final[q]
			if p < q && !table[p][q].told {
				open = append(open, pair{p, q})
			}
		}
	}
	for {
		found := map[pair]verdict{}
		for _, x := range open {
			for letter := range d.Letters {
				if v := table[d.Next[x.p][letter]][d.Next[x.q][letter]]; v.told {
					found[x] = verdict{string(rune('a'+letter)) + v.w, true}
					break
				}
			}
		}
		if len(found) == 0 {
			return table
		}
		for x, v := range found {
			table[x.p][x.q], table[x.q][x.p] = v, v
		}
		open = slices.DeleteFunc(open, func(x pair) bool { return table[x.p][x.q].told })
	}
}

// classesOf numbers the classes in the order of their least states.
func classesOf(table [][]verdict) []int {
	var classes []int
	count := 0
	for q := range table {
		p := slices.IndexFunc(table[q], func(v verdict) bool { return !v.told })
		if p < q {
			classes = append(classes, classes[p])
		} else {
			classes = append(classes, count)
			count++
		}
	}
	return classes
}

// minimalOf is P8.2: the classes that words lead to, with numbers as they are met.
func minimalOf(d api.DFA, table [][]verdict) api.DFA {
	met := []int{d.Start} // a state of each class
	number := func(state int) int {
		return slices.IndexFunc(met, func(other int) bool { return !table[state][other].told })
	}
	m := api.DFA{Letters: d.Letters}
	for i := 0; i < len(met); i++ {
		var row []int
		for _, to := range d.Next[met[i]] {
			if number(to) < 0 {
				met = append(met, to)
			}
			row = append(row, number(to))
		}
		m.Final = append(m.Final, d.Final[met[i]])
		m.Next = append(m.Next, row)
	}
	return m
}

// sameWords reports whether two automata with the same number of letters accept the same words.
func sameWords(a, b api.DFA) bool {
	type pair struct{ p, q int }
	start := pair{a.Start, b.Start}
	met := map[pair]bool{start: true}
	for queue := []pair{start}; len(queue) > 0; queue = queue[1:] {
		at := queue[0]
		if a.Final[at.p] != b.Final[at.q] {
			return false
		}
		for letter := range a.Letters {
			to := pair{a.Next[at.p][letter], b.Next[at.q][letter]}
			if !met[to] {
				met[to] = true
				queue = append(queue, to)
			}
		}
	}
	return true
}

// sameProof compares two proofs, field by field.
func sameProof(p, q api.MinProof) bool {
	return slices.Equal(p.Map, q.Map) && slices.Equal(p.Access, q.Access) && slices.Equal(p.Tests, q.Tests)
}

// cloneProof copies a proof, with what lies behind its lists.
func cloneProof(p api.MinProof) api.MinProof {
	return api.MinProof{
		Map:    slices.Clone(p.Map[:cap(p.Map)])[:len(p.Map)],
		Access: slices.Clone(p.Access[:cap(p.Access)])[:len(p.Access)],
		Tests:  slices.Clone(p.Tests[:cap(p.Tests)])[:len(p.Tests)],
	}
}

// spareProof gives each list of a proof some capacity behind its end, with what is no part of a proof.
func spareProof(p api.MinProof) api.MinProof {
	return api.MinProof{
		Map:    append(slices.Clone(p.Map), -7, 77)[:len(p.Map)],
		Access: append(slices.Clone(p.Access), "x", "y")[:len(p.Access)],
		Tests:  append(slices.Clone(p.Tests), "x", "y")[:len(p.Tests)],
	}
}

// untouchedProof compares a proof with its copy.
func untouchedProof(p, copied api.MinProof) bool {
	whole := func(x api.MinProof) api.MinProof {
		return api.MinProof{Map: x.Map[:cap(p.Map)], Access: x.Access[:cap(p.Access)], Tests: x.Tests[:cap(p.Tests)]}
	}
	return sameProof(p, copied) && sameProof(whole(p), whole(copied))
}

// scribbleProof writes over a proof.
func scribbleProof(p api.MinProof) {
	for i := range p.Map[:cap(p.Map)] {
		p.Map[:cap(p.Map)][i] = 99
	}
	clear(p.Access[:cap(p.Access)])
	clear(p.Tests[:cap(p.Tests)])
}
