package minimize_test

import (
	"math"
	"slices"
	"strings"
	"testing"

	"semigroup/api"
	"semigroup/dfa"
	"semigroup/machine"
	"semigroup/minimize"
	"semigroup/tree"
)

// conditions are those of P8.4, as they are written. The first one stands for all if it does not hold; what the others say of numbers that are not states holds.
func conditions(d, m api.DFA, p api.MinProof) [5]bool {
	if dfa.Validate(d) != api.OK || dfa.Validate(m) != api.OK || d.Letters != m.Letters {
		return [5]bool{}
	}
	n := len(m.Final)
	isState := func(x int) bool { return x >= 0 && x < n }
	number := func(state int) int {
		if state < len(p.Map) {
			return p.Map[state]
		}
		return -1
	}
	holds := [5]bool{true, true, true, true, true}
	holds[1] = len(p.Map) == len(d.Final) && number(d.Start) == m.Start && !slices.ContainsFunc(p.Map, func(x int) bool { return x != -1 && !isState(x) })
	for state, row := range d.Next {
		to := number(state)
		if !isState(to) {
			continue
		}
		holds[2] = holds[2] && d.Final[state] == m.Final[to]
		for letter, next := range row {
			holds[2] = holds[2] && number(next) == m.Next[to][letter]
		}
	}
	holds[3] = len(p.Access) == n
	for i, w := range p.Access {
		holds[3] = holds[3] && isWord(w, m.Letters) && (i >= n || machine.State(m, m.Start, w) == i)
	}
	holds[4] = len(p.Tests) <= n-1 && !slices.ContainsFunc(p.Tests, func(w string) bool { return !isWord(w, m.Letters) })
	if holds[4] {
		holds[4] = allApart(m, p.Tests)
	}
	return holds
}

// isWord is the definition of a word of chapter 1.
func isWord(w string, letters int) bool {
	return len(w) <= api.MaxWord && strings.Trim(w, "abcdef"[:letters]) == ""
}

// allApart reports whether any two states are told apart by one of the words: no two have the same verdicts.
func allApart(m api.DFA, words []string) bool {
	met := map[string]bool{}
	for state := range m.Final {
		verdicts := ""
		for _, w := range words {
			verdicts += map[bool]string{false: "0", true: "1"}[m.Final[machine.State(m, state, w)]]
		}
		met[verdicts] = true
	}
	return len(met) == len(m.Final)
}

// all are the conditions of a proof that is accepted.
func all() [5]bool {
	return [5]bool{true, true, true, true, true}
}

// checkProof compares Check with its conditions, and what it accepts with the truth.
func checkProof(t *testing.T, d, m api.DFA, p api.MinProof) bool {
	t.Helper()
	got, want := minimize.Check(d, m, p), conditions(d, m, p)
	if got != (want == all()) {
		t.Fatalf("%s, %s, %s: %t, conditions %t", show(d), show(m), show(p), got, want)
	}
	if got && (!sameWords(d, m) || len(m.Final) != len(minimize.Minimal(d).Final)) {
		t.Fatalf("%s, %s, %s: not minimal", show(d), show(m), show(p))
	}
	return got
}

// TestProve: P8.3 to P8.5, the proofs of all small automata, and of automata of all sizes.
func TestProve(t *testing.T) {
	for _, d := range slices.Concat(machine.FewDFA(), machine.AllDFA(1, 4), someDFA(25)) {
		m, p, why := minimize.Prove(d)
		if why != api.OK || !machine.SameDFA(m, minimize.Minimal(d)) {
			t.Fatalf("%s: %s, %d", show(d), show(m), why)
		}
		if !checkProof(t, d, m, p) {
			t.Fatalf("%s: Check does not accept %s, %s", show(d), show(m), show(p))
		}
	}
}

// TestProveLargest: P8.3, automata of MaxDFA states, with words of all lengths that can be necessary.
func TestProveLargest(t *testing.T) {
	for _, letters := range []int{1, api.MaxLetters} {
		same := machine.Cycle(letters, 512, 0)
		same.Final[0] = false
		for i, c := range []struct {
			d      api.DFA
			states int
		}{
			{machine.Far(letters, 511), 511}, {machine.Far(letters, 512), 512}, {late(letters, 512, true), 512}, {late(letters, 512, false), 512},
			{machine.Cycle(letters, 512, letters-1), 512}, {same, 1}, {machine.Whole(letters, true), 1},
		} {
			m, p, why := minimize.Prove(c.d)
			if why != api.OK || len(m.Final) != c.states || len(p.Tests) >= c.states || !minimize.Check(c.d, m, p) {
				t.Errorf("%d letters, case %d: %d states, %d tests, %d", letters, i, len(m.Final), len(p.Tests), why)
			}
			p.Map[c.d.Start]++
			if minimize.Check(c.d, m, p) {
				t.Errorf("%d letters, case %d: a wrong map", letters, i)
			}
		}
	}
}

// TestProveByHand: P8.3, the error OK, and proofs that have no choice.
func TestProveByHand(t *testing.T) {
	m, p, why := minimize.Prove(machine.Whole(3, true))
	if why != api.OK || !machine.SameDFA(m, machine.Whole(3, true)) || !sameProof(p, api.MinProof{Map: []int{0}, Access: p.Access}) || len(p.Access) != 1 || !isWord(p.Access[0], 3) {
		t.Error(m, p, why)
	}
	// Only one word leads to each of the states but the last one, and only one tells each two neighbours apart.
	m, p, why = minimize.Prove(machine.Far(1, 5))
	slices.Sort(p.Tests)
	if why != api.OK || !machine.SameDFA(m, machine.Far(1, 5)) || !slices.Equal(p.Map, []int{0, 1, 2, 3, 4}) || !slices.Equal(p.Access[:4], []string{"", "a", "aa", "aaa"}) || !slices.Equal(p.Tests, []string{"", "a", "aa", "aaa"}) {
		t.Error(m, p, why)
	}
}

// lists calls visit with each list of at most most of the values.
func lists[T any](values []T, most int, visit func(list []T)) {
	var extend func(begin []T)
	extend = func(begin []T) {
		visit(begin)
		if len(begin) == most {
			return
		}
		for _, x := range values {
			extend(append(begin[:len(begin):len(begin)], x))
		}
	}
	extend(nil)
}

// TestCheckMaps: P8.4, all maps with small numbers, for all pairs of automata of at most two states over one letter, and for some larger ones.
func TestCheckMaps(t *testing.T) {
	accepted := 0
	small := slices.Concat(machine.AllDFA(1, 1), machine.AllDFA(1, 2))
	large := slices.Concat(small, machine.AllDFA(1, 3))
	for i, d := range large {
		if i >= len(small) && i%5 > 0 {
			continue
		}
		for _, m := range small {
			p := api.MinProof{Access: dfa.Access(m), Tests: make([]string, len(m.Final)-1)}
			if m.Start == 1 {
				slices.Reverse(p.Access)
			}
			lists([]int{-2, -1, 0, 1, 2}, len(d.Final)+1, func(list []int) {
				if len(list) < len(d.Final)-1 {
					return
				}
				p.Map = list
				if checkProof(t, d, m, p) {
					accepted++
				}
			})
		}
	}
	if accepted < 100 {
		t.Error("accepted:", accepted)
	}
}

// TestCheckWords: P8.4, all short lists of short words, for automata of at most three states.
func TestCheckWords(t *testing.T) {
	accepted := [2]int{}
	words := []string{"", "a", "b", "aa", "ab", "c"}
	for i, m := range slices.Concat(machine.AllDFA(2, 1), machine.AllDFA(2, 2), machine.AllDFA(2, 3)) {
		if len(m.Final) == 3 && i%60 > 0 {
			continue
		}
		whole, good, _ := minimize.Prove(m)
		if len(whole.Final) < len(m.Final) {
			whole, good = m, api.MinProof{Map: []int{0, 1, 2}[:len(m.Final)]}
		}
		for part := range accepted {
			lists(words, 4, func(list []string) {
				p := good
				if part == 0 {
					p.Access = list
				} else {
					p.Tests = list
				}
				if checkProof(t, m, whole, p) {
					accepted[part]++
				}
			})
		}
	}
	if accepted[0] < 100 || accepted[1] < 100 {
		t.Error("accepted:", accepted)
	}
}

// odds are the automaton of the chapter's example, its minimal automaton, and a proof.
func odds() (d, m api.DFA, p api.MinProof) {
	d = api.DFA{Letters: 2, Final: []bool{false, true, false, true}, Next: [][]int{{1, 0}, {2, 1}, {3, 2}, {0, 3}}}
	return d, machine.Odd(), api.MinProof{Map: []int{0, 1, 0, 1}, Access: []string{"", "a"}, Tests: []string{""}}
}

// lone is a state that accepts everything, and a state that no word leads to, from which the letter leads to one of them.
func lone(final bool, to int) api.DFA {
	return api.DFA{Letters: 1, Final: []bool{true, final}, Next: [][]int{{0}, {to}}}
}

// proofCase is a proof with the number of the condition that does not hold, or 0.
type proofCase struct {
	d, m   api.DFA
	p      api.MinProof
	broken int
}

// checkCases expects that all conditions but the given ones hold.
func checkCases(t *testing.T, cases []proofCase) {
	t.Helper()
	for i, c := range cases {
		want := all()
		if c.broken > 0 {
			want[c.broken-1] = false
		}
		if c.broken == 1 {
			want = [5]bool{}
		}
		if got := conditions(c.d, c.m, c.p); got != want {
			t.Errorf("case %d: a wrong test: conditions %t", i, got)
		}
		if got := minimize.Check(c.d, c.m, c.p); got != (c.broken == 0) {
			t.Errorf("case %d: %t, condition %d", i, got, c.broken)
		}
	}
}

// TestCheckAutomata: P8.4, condition 1 alone: automata that are not valid, and different numbers of letters.
func TestCheckAutomata(t *testing.T) {
	d, m, p := odds()
	one := func(letters int) api.DFA { return machine.Whole(letters, true) }
	unit := api.MinProof{Map: []int{0}, Access: []string{""}}
	far := func(n int) (api.DFA, api.MinProof) {
		p := api.MinProof{}
		for i := range n {
			p.Map = append(p.Map, i)
			p.Access = append(p.Access, strings.Repeat("a", i))
			p.Tests = append(p.Tests, strings.Repeat("a", i))
		}
		p.Tests = p.Tests[:n-1]
		return machine.Far(1, n), p
	}
	most, mostProof := far(512)
	more, moreProof := far(513)
	cases := []proofCase{
		{d, m, p, 0}, {one(1), one(1), unit, 0}, {one(6), one(6), unit, 0}, {most, most, mostProof, 0}, {machine.Cycle(2, 512, 0), machine.Whole(2, true), api.MinProof{Map: make([]int, 512), Access: []string{""}}, 3},
		{one(1), one(2), unit, 1}, {one(2), one(1), unit, 1}, {one(7), one(7), unit, 1}, {one(6), one(5), unit, 1}, {one(0), one(0), unit, 1},
		{api.DFA{}, api.DFA{}, api.MinProof{}, 1}, {api.DFA{Letters: 1}, api.DFA{Letters: 1}, api.MinProof{}, 1}, {api.DFA{Letters: 1}, one(1), unit, 1}, {one(1), api.DFA{Letters: 1}, unit, 1},
		{d, api.DFA{}, p, 1}, {api.DFA{}, m, p, 1}, {more, more, moreProof, 1},
	}
	for _, edit := range []func(x *api.DFA){
		func(x *api.DFA) { x.Letters = 3 }, func(x *api.DFA) { x.Letters = 1 }, func(x *api.DFA) { x.Next = append(x.Next, []int{0, 0}) }, func(x *api.DFA) { x.Next[1] = append(x.Next[1], 0) },
		func(x *api.DFA) { x.Next[0] = x.Next[0][:1] }, func(x *api.DFA) { x.Next = x.Next[:1] }, func(x *api.DFA) { x.Final = append(x.Final, true) }, func(x *api.DFA) { x.Start = 99 }, func(x *api.DFA) { x.Start = -1 },
		func(x *api.DFA) { x.Next[1][1] = 99 }, func(x *api.DFA) { x.Next[0][0] = -1 }, func(x *api.DFA) { x.Next = nil }, func(x *api.DFA) { x.Final = nil },
	} {
		a, b, p := odds()
		edit(&a)
		edit(&b)
		cases = append(cases, proofCase{a, m, p, 1}, proofCase{d, b, p, 1}, proofCase{a, b, p, 1})
	}
	for _, c := range machine.WrongDFAs() {
		cases = append(cases, proofCase{c.D, c.D, p, 1}, proofCase{c.D, m, p, 1}, proofCase{d, c.D, p, 1}, proofCase{c.D, c.D, api.MinProof{}, 1})
	}
	// MaxDFA states that are all equivalent, and one more
	cases = append(cases, proofCase{machine.DFA(1, 0, slices.Repeat([]bool{true}, 513), func(state, letter int) int { return 0 }), one(1), api.MinProof{Map: make([]int, 513), Access: []string{""}}, 1})
	cases = append(cases, proofCase{machine.DFA(1, 0, slices.Repeat([]bool{true}, 512), func(state, letter int) int { return 0 }), one(1), api.MinProof{Map: make([]int, 512), Access: []string{""}}, 0})
	checkCases(t, cases)
}

// TestCheckMap: P8.4, conditions 2 and 3 alone.
func TestCheckMap(t *testing.T) {
	one := machine.Whole(1, true)
	with := func(numbers ...int) api.MinProof { return api.MinProof{Map: numbers, Access: []string{""}} }
	d, m, p := odds()
	edited := func(numbers ...int) api.MinProof { return api.MinProof{Map: numbers, Access: p.Access, Tests: p.Tests} }
	even := machine.Odd()
	even.Start = 1
	stay := machine.Odd()
	stay.Next[0][1] = 1
	away := machine.Odd()
	away.Next[1][0] = 1
	checkCases(t, []proofCase{
		{d, m, p, 0},
		// State 1 is not reachable: it may be mapped or not.
		{lone(true, 1), one, with(0, -1), 0}, {lone(true, 1), one, with(0, 0), 0}, {lone(true, 0), one, with(0, -1), 0}, {lone(true, 0), one, with(0, 0), 0}, {lone(false, 0), one, with(0, -1), 0}, {lone(false, 1), one, with(0, -1), 0},
		// too short, too long
		{lone(true, 1), one, with(0), 2}, {lone(true, 1), one, with(0, 0, 0), 2}, {lone(true, 1), one, with(0, -1, -1), 2}, {lone(true, 0), one, with(0), 2}, {one, one, with(0, 0), 2}, {one, one, with(0, -1), 2}, {one, one, with(), 2},
		{d, m, edited(0, 1, 0, 1, 0), 2}, {d, m, edited(0, 1, 0, 1, -1), 2},
		// below -1, beyond the states
		{lone(true, 1), one, with(0, -2), 2}, {lone(true, 1), one, with(0, math.MinInt), 2}, {lone(true, 1), one, with(0, 1), 2}, {lone(true, 1), one, with(0, 2), 2}, {lone(true, 1), one, with(0, 1<<32), 2}, {lone(true, 1), one, with(0, math.MaxInt), 2},
		{one, one, with(-2), 2}, {one, one, with(1), 2}, {one, one, with(1 << 32), 2},
		// wrong at the start state
		{one, one, with(-1), 2}, {lone(true, 1), one, with(-1, 0), 2}, {lone(true, 1), one, with(-1, -1), 2}, {d, m, edited(-1, -1, -1, -1), 2},
		{machine.Odd(), even, api.MinProof{Map: []int{0, 1}, Access: []string{"a", ""}, Tests: p.Tests}, 2}, {even, machine.Odd(), edited(0, 1), 2}, {even, even, api.MinProof{Map: []int{0, 1}, Access: []string{"a", ""}, Tests: p.Tests}, 0},
		// wrong at a final state
		{one, machine.Whole(1, false), with(0), 3}, {machine.Whole(1, false), one, with(0), 3}, {lone(false, 0), one, with(0, 0), 3}, {lone(false, 1), one, with(0, 0), 3}, {d, m, edited(0, 1, 0, 0), 3}, {d, m, edited(0, 1, 1, 1), 3},
		{dfa.Complement(d), m, p, 3}, {d, dfa.Complement(m), p, 3},
		// wrong at a successor
		{stay, m, edited(0, 1), 3}, {m, stay, edited(0, 1), 3}, {away, m, edited(0, 1), 3}, {m, away, edited(0, 1), 3}, {d, m, edited(0, 1, 0, -1), 3}, {d, m, edited(0, -1, -1, -1), 3}, {d, m, edited(0, 1, -1, 1), 3}, {d, m, edited(0, -1, 0, -1), 3},
		{api.DFA{Letters: 1, Final: []bool{true, true, true}, Next: [][]int{{0}, {2}, {2}}}, one, with(0, 0, -1), 3}, {api.DFA{Letters: 1, Final: []bool{true, true, true}, Next: [][]int{{0}, {2}, {2}}}, one, with(0, -1, 0), 0},
	})
}

// TestCheckLists: P8.4, conditions 4 and 5 alone.
func TestCheckLists(t *testing.T) {
	d, m, p := odds()
	long := strings.Repeat("b", api.MaxWord)
	access := func(broken int, words ...string) proofCase {
		return proofCase{d, m, api.MinProof{Map: p.Map, Access: words, Tests: p.Tests}, broken}
	}
	tests := func(broken int, words ...string) proofCase {
		return proofCase{d, m, api.MinProof{Map: p.Map, Access: p.Access, Tests: words}, broken}
	}
	one := machine.Whole(1, true)
	single := func(broken int, access, tests []string) proofCase {
		return proofCase{one, one, api.MinProof{Map: []int{0}, Access: access, Tests: tests}, broken}
	}
	three := machine.Far(2, 3)
	far := func(broken int, words ...string) proofCase {
		return proofCase{three, three, api.MinProof{Map: []int{0, 1, 2}, Access: []string{"", "b", "ab"}, Tests: words}, broken}
	}
	// State 2 x + y has the verdicts x for a and y for the empty word.
	two := api.DFA{Letters: 2, Final: []bool{false, true, false, true}, Next: [][]int{{0, 1}, {0, 2}, {1, 3}, {1, 0}}}
	four := func(broken int, words ...string) proofCase {
		return proofCase{two, two, api.MinProof{Map: []int{0, 1, 2, 3}, Access: []string{"", "b", "bb", "bbb"}, Tests: words}, broken}
	}
	checkCases(t, []proofCase{
		access(0, "", "a"), access(0, "b", "ba"), access(0, "aa", "aaab"), access(0, long, "a"+long[1:]), access(0, "abab", long[:2047]+"a"),
		// too short, too long
		access(4), access(4, ""), access(4, "a"), access(4, "", "a", ""), access(4, "", "a", "a"), access(4, "", "a", "aa"), access(4, "", "a", "c"), single(4, nil, nil), single(4, []string{"", ""}, nil), single(0, []string{"aaa"}, nil), single(0, []string{""}, []string{}),
		// no words over the letters
		access(4, "", "c"), access(4, "c", "a"), access(4, "", "ac"), access(4, "", "ca"), access(4, "", "A"), access(4, "", "a "), access(4, "", "a\x00"), access(4, "", "\xff"), access(4, "`", "a"), access(4, long+"b", "a"), access(4, "", "a"+long), access(4, "", "g"), single(4, []string{"b"}, nil),
		// words that lead elsewhere
		access(4, "", ""), access(4, "a", "a"), access(4, "a", ""), access(4, "", "aa"), access(4, "bba", "a"), access(4, "", long),
		tests(0, ""), tests(0, "a"), tests(0, "ab"), tests(0, long), tests(0, "a"+long[1:]),
		// too many
		tests(5, "", ""), tests(5, "", "a"), tests(5, "a", "b", "ab"), single(5, []string{""}, []string{""}), single(5, []string{""}, []string{"a"}), far(5, "", "a", "b"), far(5, "", "b", "b"), far(5, "", "a", "c"),
		// no words over the letters
		tests(5, "c"), tests(5, "ac"), tests(5, "ca"), tests(5, "A"), tests(5, " "), tests(5, "\x00"), tests(5, "\xff"), tests(5, "`"), tests(5, "b"+long), tests(5, "g"), far(5, "a", "c"),
		// states that are left together
		tests(5), far(5), far(5, ""), far(5, "a"), far(5, "b"), far(5, "", ""), far(5, "a", "b"), far(5, "", "aa"), far(5, "ab", "a"),
		far(0, "", "a"), far(0, "b", ""),
		// less than n - 1, n - 1 although less are enough, and n
		four(0, "", "a"), four(0, "a", ""), four(0, "", "a", "b"), four(0, "", "a", "a"), four(0, "", "", "a"), four(0, "bb", "b", "a"), four(5, "", "a", "b", "bb"), four(5, "", "a", "", "a"),
		four(5), four(5, ""), four(5, "a"), four(5, "", "b", "bb"), four(5, "a", "ba", "c"), four(5, "", "a", long+"b"), four(0, "", "a", long),
	})
}

// renumbered gives the states of m other numbers, in its proof as well.
func renumbered(s *tree.Source, m api.DFA, p api.MinProof) (api.DFA, api.MinProof) {
	other := machine.Shuffled(s, m)
	number := make([]int, len(m.Final))
	access := make([]string, len(m.Final))
	for state, w := range p.Access {
		number[state] = machine.State(other, other.Start, w)
		access[number[state]] = w
	}
	p = cloneProof(p)
	for i, state := range p.Map {
		if state >= 0 {
			p.Map[i] = number[state]
		}
	}
	p.Access = access
	return other, p
}

// changed changes one thing in a proof or in one of the automata, which are copied.
func changed(s *tree.Source, d, m api.DFA, p api.MinProof) (api.DFA, api.DFA, api.MinProof) {
	d, m, p = machine.CloneDFA(d), machine.CloneDFA(m), cloneProof(p)
	x := []*api.DFA{&d, &m}[s.Below(2)]
	states := len(x.Final)
	words := []*[]string{&p.Access, &p.Tests}[s.Below(2)]
	place := s.Below(len(*words) + 1)
	switch change := s.Below(9); {
	case change == 0:
		x.Start = s.Below(states)
	case change == 1:
		state := s.Below(states)
		x.Final[state] = !x.Final[state]
	case change == 2:
		x.Next[s.Below(states)][s.Below(d.Letters)] = s.Below(states)
	case change == 3 && len(p.Map) > 0:
		p.Map[s.Below(len(p.Map))] = s.Below(len(m.Final)+3) - 2
	case change == 4:
		p.Map = append(p.Map, -1)
	case change == 5 && place < len(*words):
		*words = slices.Delete(*words, place, place+1)
	case change == 6:
		*words = slices.Insert(*words, place, s.Long(s.Below(4), d.Letters))
	case place < len(*words):
		(*words)[place] = s.Long(s.Below(5), min(d.Letters+s.Below(2), api.MaxLetters))
	case len(p.Map) > 0:
		p.Map = p.Map[1:]
	}
	return d, m, p
}

// TestCheckChanged: P8.4 and P8.5, proofs with other numbers of the states of m, and proofs and automata that are changed in one place or two.
func TestCheckChanged(t *testing.T) {
	var list []api.DFA
	for i := range 2000 {
		s := tree.Source(i)
		states, letters := 1+s.Below(6), 1+s.Below(3)
		list = append(list, machine.RandomDFA(&s, letters, states, 2), machine.Doubled(&s, machine.RandomDFA(&s, letters, states, 3)))
	}
	accepted, rejected := 0, 0
	for i, d := range slices.Concat(list, someDFA(8)) {
		s := tree.Source(i)
		m, p, _ := minimize.Prove(d)
		m, p = renumbered(&s, m, p)
		if !checkProof(t, d, m, p) {
			t.Fatalf("%s: Check does not accept %s, %s", show(d), show(m), show(p))
		}
		for range 10 {
			a, b, c := changed(&s, d, m, p)
			if s.Below(2) == 0 {
				a, b, c = changed(&s, a, b, c)
			}
			if checkProof(t, a, b, c) {
				accepted++
			} else {
				rejected++
			}
		}
	}
	if accepted < 1000 || rejected < 1000 {
		t.Error("a poor choice:", accepted, rejected)
	}
}

// TestCheckNotMinimal: P8.5, automata that accept the same words, with a map, but with too many states.
func TestCheckNotMinimal(t *testing.T) {
	for i := range 500 {
		s := tree.Source(i)
		small := minimize.Minimal(machine.RandomDFA(&s, 1+s.Below(3), 1+s.Below(8), 2))
		states := len(small.Final)
		m := machine.Doubled(&s, small)
		p := api.MinProof{Tests: tree.Words(m.Letters, states)}
		p.Tests = p.Tests[:min(len(p.Tests), 2*states-1)]
		words, found := make([]string, 2*states), make([]bool, 2*states)
		for _, w := range tree.Words(m.Letters, 4) {
			if state := machine.State(m, m.Start, w); !found[state] {
				words[state], found[state] = w, true
			}
		}
		for state := range m.Final {
			p.Map = append(p.Map, state)
		}
		p.Access = words
		if checkProof(t, m, m, p) {
			t.Fatalf("%s: %s", show(m), show(p))
		}
	}
}

// TestNilLists: P8.4, proofs with lists that are nil, or empty.
func TestNilLists(t *testing.T) {
	d, m, p := odds()
	for i, q := range []api.MinProof{{}, {Map: p.Map}, {Access: p.Access}, {Tests: p.Tests}, {Access: p.Access, Tests: p.Tests}, {Map: p.Map, Tests: p.Tests}, {Map: p.Map, Access: p.Access}} {
		full := api.MinProof{Map: append([]int{}, q.Map...), Access: append([]string{}, q.Access...), Tests: append([]string{}, q.Tests...)}
		if checkProof(t, d, m, q) || checkProof(t, d, m, full) || minimize.Check(api.DFA{}, api.DFA{}, q) || minimize.Check(d, api.DFA{}, full) {
			t.Error("case", i)
		}
	}
	one := machine.Whole(2, false)
	for i, tests := range [][]string{nil, {}} {
		if !checkProof(t, one, one, api.MinProof{Map: []int{0}, Access: []string{""}, Tests: tests}) {
			t.Error("one state, case", i)
		}
	}
}

// results collects what all functions return for an automaton.
type results struct {
	classes  []int
	w        string
	m, other api.DFA
	p        api.MinProof
	checked  bool
}

func everything(d api.DFA) results {
	r := results{classes: minimize.Classes(d), m: minimize.Minimal(d)}
	r.w, _ = minimize.Distinguish(d, d.Start, 0)
	r.other, r.p, _ = minimize.Prove(d)
	r.checked = minimize.Check(d, r.other, r.p)
	return r
}

func (r results) same(s results) bool {
	return slices.Equal(r.classes, s.classes) && r.w == s.w && machine.SameDFA(r.m, s.m) && machine.SameDFA(r.other, s.other) && sameProof(r.p, s.p) && r.checked == s.checked
}

func (r results) scribble() {
	clear(r.classes[:cap(r.classes)])
	machine.ScribbleDFA(r.m)
	machine.ScribbleDFA(r.other)
	scribbleProof(r.p)
}

// TestArguments: R3 and R4, arguments that stay as they are, with what lies behind their lists, and results that share no memory with them or with each other.
func TestArguments(t *testing.T) {
	list := slices.Concat(machine.AllDFA(2, 2), machine.ScatteredDFA(30))
	for _, c := range machine.WrongDFAs() {
		list = append(list, c.D)
	}
	for _, d := range list {
		d := machine.SpareDFA(d)
		copied := machine.CloneDFA(d)
		first := everything(d)
		everything(d).scribble()
		if !machine.UntouchedDFA(d, copied) {
			t.Fatal("an argument has changed:", show(copied))
		}
		if !first.same(everything(d)) {
			t.Fatal("not the same results:", show(copied))
		}
		m, p := machine.SpareDFA(first.other), spareProof(first.p)
		alsoM, alsoP := machine.CloneDFA(m), cloneProof(p)
		if minimize.Check(d, m, p) != first.checked || minimize.Check(m, d, p) && !first.checked || !machine.UntouchedDFA(d, copied) || !machine.UntouchedDFA(m, alsoM) || !untouchedProof(p, alsoP) {
			t.Fatal("Check has changed an argument:", show(copied))
		}
		machine.ScribbleDFA(d)
		if !first.same(everything(copied)) {
			t.Fatal("results share memory with arguments:", show(copied))
		}
	}
}

// TestRows: R3, rows of results that share no memory with each other.
func TestRows(t *testing.T) {
	for _, d := range machine.ScatteredDFA(20) {
		for _, x := range []api.DFA{everything(d).m, everything(d).other} {
			for state, row := range x.Next {
				copy(row[:cap(row)], slices.Repeat([]int{state}, cap(row)))
			}
			for state, row := range x.Next {
				if slices.ContainsFunc(row[:cap(row)], func(to int) bool { return to != state }) {
					t.Fatal("rows share memory:", show(d))
				}
			}
		}
	}
}
