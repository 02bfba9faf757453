package dfa

import "semigroup/api"

const (
	modulus   = 1<<61 - 1 // of Count
	maxLength = 10000     // the greatest length of the words that Count counts
	maxListed = 200       // the greatest number of words that Words lists
)

// Shortest returns the least accepted word.
func Shortest(d api.DFA) (string, bool) {
	t, _ := Trim(d)
	for state, w := range Access(d) { // in ascending order
		if t.Final[state] {
			return w, true
		}
	}
	return "", false
}

// Count returns the number of accepted words of a length.
func Count(d api.DFA, n int) int {
	if !valid(d) || n < 0 || n > maxLength {
		return 0
	}
	counts := make([]uint64, len(d.Final)) // for each state the words that lead from it to a final state
	for state, final := range d.Final {
		counts[state] = uint64(bit(final))
	}
	for range n {
		counts = longer(d, counts)
	}
	return int(counts[d.Start])
}

// longer counts the words that are longer by a letter.
func longer(d api.DFA, counts []uint64) []uint64 {
	sums := make([]uint64, len(counts))
	for state, row := range d.Next {
		for _, to := range row {
			sums[state] += counts[to] // no overflow: less than eight numbers below 2^61
		}
		sums[state] %= modulus
	}
	return sums
}

// before returns the states from which a letter leads to one of some states.
func before(d api.DFA, states []bool) []bool {
	list := make([]bool, len(states))
	for state, row := range d.Next {
		for _, to := range row {
			list[state] = list[state] || states[to]
		}
	}
	return list
}

// Infinite reports whether infinitely many words are accepted.
func Infinite(d api.DFA) bool {
	if !valid(d) {
		return false
	}
	// The run of a word with as many letters as there are states repeats a state: what is between can be left out, or be repeated for ever. Leaving out leads to a word with less than twice as many letters.
	states := len(d.Final)
	live := d.Final // the states from which length letters lead to a final one
	for length := range 2 * states {
		if length >= states && live[d.Start] {
			return true
		}
		live = before(d, live)
	}
	return false
}

// Words returns the first accepted words.
func Words(d api.DFA, n int) []string {
	if !valid(d) || n < 0 || n > maxListed {
		return nil
	}
	s := search{d: d, live: [][]bool{d.Final}, most: n}
	for length := 0; length <= api.MaxWord && len(s.found) < n; length++ {
		s.extend(d.Start, length)
		s.live = append(s.live, before(d, s.live[length]))
	}
	return s.found
}

// search is a search for accepted words.
type search struct {
	d     api.DFA
	live  [][]bool // for each number of letters the states from which so many lead to a final state
	word  []byte   // the beginning of a word
	found []string
	most  int // the number of words that are wanted
}

// extend finds the words that go on from a state with a number of letters, in ascending order.
func (s *search) extend(state, letters int) {
	// Only ways that end in a word are followed, so that each word takes few steps.
	if len(s.found) == s.most || !s.live[letters][state] {
		return
	}
	if letters == 0 {
		s.found = append(s.found, string(s.word))
		return
	}
	for letter, to := range s.d.Next[state] {
		s.word = append(s.word, 'a'+byte(letter))
		s.extend(to, letters-1)
		s.word = s.word[:len(s.word)-1]
	}
}
