package minimize_test

import (
	"math"
	"slices"
	"strings"
	"testing"

	"semigroup/api"
	"semigroup/dfa"
	"semigroup/machine"
	"semigroup/minimize"
	"semigroup/partition"
	"semigroup/tree"
)

// checkClasses compares Classes with a table.
func checkClasses(t *testing.T, d api.DFA, table [][]verdict) {
	t.Helper()
	if got, want := minimize.Classes(d), classesOf(table); !slices.Equal(got, want) {
		t.Fatalf("%s: %s, want %s", show(d), show(got), show(want))
	}
}

// checkPair compares Distinguish with a table, in both orders.
func checkPair(t *testing.T, d api.DFA, table [][]verdict, p, q int) {
	t.Helper()
	want := table[p][q]
	w, told := minimize.Distinguish(d, p, q)
	v, also := minimize.Distinguish(d, q, p)
	if w != want.w || told != want.told || v != w || also != told {
		t.Fatalf("%s, %d and %d: %q, %t and %q, %t, want %q, %t", show(d), p, q, w, told, v, also, want.w, want.told)
	}
}

// checkMinimal compares Minimal with its definition and with what the definition leads to.
func checkMinimal(t *testing.T, d api.DFA, table [][]verdict) {
	t.Helper()
	got := minimize.Minimal(d)
	if want := minimalOf(d, table); !machine.SameDFA(got, want) {
		t.Fatalf("%s: %s, want %s", show(d), show(got), show(want))
	}
	trim, _ := dfa.Trim(got)
	if dfa.Validate(got) != api.OK || !machine.SameDFA(trim, got) || !sameWords(got, d) || partition.Count(minimize.Classes(got)) != len(got.Final) {
		t.Fatalf("%s: %s", show(d), show(got))
	}
}

// TestSmall: P8.1 and P8.2, all small automata, by the words themselves.
func TestSmall(t *testing.T) {
	for _, d := range slices.Concat(machine.FewDFA(), machine.AllDFA(1, 4)) {
		table := byWords(d)
		checkClasses(t, d, table)
		checkMinimal(t, d, table)
		for p := range table {
			for q := range p + 1 {
				checkPair(t, d, table, p, q)
			}
		}
		for p, row := range byLengths(d) {
			if !slices.Equal(row, table[p]) {
				t.Fatalf("%s: the tables differ: %s, %s", show(d), show(row), show(table[p]))
			}
		}
	}
}

// late makes an automaton in which only the last letter leads on, to a final state far away; the other letters lead to state 0, or keep the state.
func late(letters, states int, back bool) api.DFA {
	far := machine.Far(letters, states)
	return machine.DFA(letters, 0, far.Final, func(state, letter int) int {
		switch {
		case letter == letters-1:
			return far.Next[state][letter]
		case back:
			return 0
		}
		return state
	})
}

// someDFA lists automata of all sizes: of different kinds, with states that no word leads to, and with states that are equivalent.
func someDFA(count int) []api.DFA {
	list := machine.ScatteredDFA(count)
	for i := range count {
		s := tree.Source(i)
		states := 1 + i*(api.MaxDFA/2-1)/max(count-1, 1)
		letters := 1 + s.Below(api.MaxLetters)
		list = append(list, machine.Doubled(&s, machine.RandomDFA(&s, letters, states, 2+s.Below(states))))
		list = append(list, machine.Doubled(&s, machine.Forward(&s, letters, 1+states/4, 2+s.Below(states), 2)))
		list = append(list, machine.Shuffled(&s, late(letters, 1+states/4, i%2 == 0)))
	}
	return list
}

// TestScattered: P8.1 and P8.2, automata of up to MaxDFA states, by a table of all pairs.
func TestScattered(t *testing.T) {
	longest, equivalent, apart := 0, 0, 0
	for i, d := range someDFA(45) {
		table := byLengths(d)
		checkClasses(t, d, table)
		checkMinimal(t, d, table)
		s := tree.Source(i)
		for range 30 {
			p, q := s.Below(len(table)), s.Below(len(table))
			checkPair(t, d, table, p, q)
			longest = max(longest, len(table[p][q].w))
			if table[p][q].told {
				apart++
			} else if p != q {
				equivalent++
			}
		}
	}
	if longest < 50 || equivalent < 100 || apart < 100 {
		t.Error("a poor choice:", longest, equivalent, apart)
	}
}

// TestLargest: P8.1 and P8.2, automata of one state and of MaxDFA states, with all states equivalent and with no two equivalent.
func TestLargest(t *testing.T) {
	for letters := 1; letters <= api.MaxLetters; letters++ {
		for _, states := range []int{1, 2, 3, 511, 512} {
			one := machine.Cycle(letters, states, letters-1)
			for _, d := range []api.DFA{one, dfa.Complement(one), machine.Far(letters, states), late(letters, states, true), late(letters, states, false)} {
				if got := minimize.Classes(d); !slices.Equal(got, partition.Discrete(states)) {
					t.Fatalf("%d letters, %d states: %s", letters, states, show(got))
				}
				trim, _ := dfa.Trim(d)
				if got := minimize.Minimal(d); !machine.SameDFA(got, trim) || len(got.Final) != states {
					t.Fatalf("%d letters, %d states: %s", letters, states, show(got))
				}
			}
			for _, final := range []bool{false, true} {
				one.Final = slices.Repeat([]bool{final}, states)
				if got := minimize.Classes(one); !slices.Equal(got, make([]int, states)) {
					t.Fatalf("%d letters, %d states: %s", letters, states, show(got))
				}
				if got := minimize.Minimal(one); !machine.SameDFA(got, machine.Whole(letters, final)) {
					t.Fatalf("%d letters, %d states: %s", letters, states, show(got))
				}
				if w, told := minimize.Distinguish(one, 0, states-1); w != "" || told {
					t.Fatalf("%d letters, %d states: %q, %t", letters, states, w, told)
				}
			}
		}
	}
}

// TestLongWords: P8.1, the longest words that are necessary.
func TestLongWords(t *testing.T) {
	for _, letters := range []int{1, 2, api.MaxLetters} {
		last := string(rune('a' + letters - 1))
		for _, p := range []int{0, 1, 510} {
			for _, q := range []int{p + 1, 511} {
				for i, c := range []struct {
					d      api.DFA
					letter string
				}{{machine.Far(letters, 512), "a"}, {late(letters, 512, true), last}, {late(letters, 512, false), last}} {
					want := strings.Repeat(c.letter, 511-q)
					if w, told := minimize.Distinguish(c.d, p, q); w != want || !told {
						t.Errorf("%d letters, case %d, %d and %d: %d letters, %t, want %d", letters, i, p, q, len(w), told, len(want))
					}
				}
			}
		}
	}
}

// apartDFA has pairs of states that several words tell apart.
func apartDFA() api.DFA {
	return api.DFA{Letters: 2, Start: 6, Final: []bool{false, false, true, false, false, false, false, false}, Next: [][]int{
		{3, 2}, // 0: of 0 and 1, b tells them apart, and so does aa, which is before it in a dictionary
		{4, 1},
		{2, 2}, // 2: everything is accepted
		{2, 5},
		{5, 5},
		{5, 5}, // 5: nothing is accepted
		{7, 3}, // 6: of 6 and 7, ba and ab tell them apart, but neither a nor b
		{0, 4},
	}}
}

// TestDistinguishByHand: P8.1, words where a shorter or an earlier one would be wrong.
func TestDistinguishByHand(t *testing.T) {
	for _, c := range []struct {
		d    api.DFA
		p, q int
		w    string
		told bool
	}{
		{apartDFA(), 0, 1, "b", true}, {apartDFA(), 6, 7, "ab", true}, {apartDFA(), 3, 4, "a", true}, {apartDFA(), 2, 5, "", true}, {apartDFA(), 4, 5, "", false},
		{apartDFA(), 0, 3, "a", true}, {apartDFA(), 6, 5, "ba", true}, {apartDFA(), 7, 5, "ab", true}, {apartDFA(), 2, 2, "", false}, {apartDFA(), 1, 4, "", false},
		{machine.Odd(), 0, 1, "", true}, {machine.Odd(), 0, 0, "", false}, {machine.Odd(), 1, 1, "", false},
		// Of the words of one letter, only the last one tells 0 and 1 apart.
		{api.DFA{Letters: 3, Final: []bool{false, false, true}, Next: [][]int{{0, 0, 2}, {1, 1, 0}, {2, 2, 2}}}, 0, 1, "c", true},
		// State 1 is final for ever, state 0 is not after a, or after b.
		{api.DFA{Letters: 2, Final: []bool{true, true, false}, Next: [][]int{{2, 0}, {1, 1}, {2, 2}}}, 0, 1, "a", true},
		{api.DFA{Letters: 2, Final: []bool{true, true, false}, Next: [][]int{{0, 2}, {1, 1}, {2, 2}}}, 0, 1, "b", true},
	} {
		for _, order := range [][2]int{{c.p, c.q}, {c.q, c.p}} {
			if w, told := minimize.Distinguish(c.d, order[0], order[1]); w != c.w || told != c.told {
				t.Errorf("%s, %d: %q, %t, want %q, %t", show(c.d), order, w, told, c.w, c.told)
			}
		}
	}
}

// TestUnreachable: P8.1 and P8.2, states that no word leads to count in Classes and Distinguish, but not in Minimal.
func TestUnreachable(t *testing.T) {
	for i, c := range []struct {
		d       api.DFA
		classes []int
		minimal api.DFA
	}{
		{api.DFA{Letters: 1, Start: 2, Final: []bool{true, false, true}, Next: [][]int{{1}, {1}, {2}}}, []int{0, 1, 2}, machine.Whole(1, true)},
		{api.DFA{Letters: 1, Start: 2, Final: []bool{false, true, true, false}, Next: [][]int{{1}, {2}, {1}, {0}}}, []int{0, 1, 1, 2}, machine.Whole(1, true)},
		{api.DFA{Letters: 2, Start: 2, Final: []bool{true, true, false}, Next: [][]int{{2, 0}, {1, 1}, {0, 2}}}, []int{0, 1, 2}, machine.Odd()},
		{api.DFA{Letters: 2, Start: 3, Final: []bool{true, true, false, false}, Next: [][]int{{2, 1}, {3, 1}, {1, 2}, {0, 3}}}, []int{0, 0, 1, 1}, machine.Odd()},
		{apartDFA(), []int{0, 1, 2, 3, 1, 1, 4, 5}, api.DFA{Letters: 2, Final: []bool{false, false, false, false, false, true}, Next: [][]int{{1, 2}, {3, 4}, {5, 4}, {2, 5}, {4, 4}, {5, 5}}}},
	} {
		if got := minimize.Classes(c.d); !slices.Equal(got, c.classes) {
			t.Errorf("case %d: %d, want %d", i, got, c.classes)
		}
		if got := minimize.Minimal(c.d); !machine.SameDFA(got, c.minimal) {
			t.Errorf("case %d: %s, want %s", i, show(got), show(c.minimal))
		}
		for p, class := range c.classes {
			for q, other := range c.classes {
				if w, told := minimize.Distinguish(c.d, p, q); told != (class != other) || told && !tells(c.d, p, q, w) {
					t.Errorf("case %d, %d and %d: %q, %t", i, p, q, w, told)
				}
			}
		}
	}
}

// TestExamples: P8.1 and P8.2, the chapter's examples.
func TestExamples(t *testing.T) {
	d := api.DFA{Letters: 2, Final: []bool{false, true, false, true}, Next: [][]int{{1, 0}, {2, 1}, {3, 2}, {0, 3}}}
	if got := minimize.Classes(d); !slices.Equal(got, []int{0, 1, 0, 1}) {
		t.Error(got)
	}
	if w, told := minimize.Distinguish(d, 0, 1); w != "" || !told {
		t.Error(w, told)
	}
	if w, told := minimize.Distinguish(d, 0, 2); w != "" || told {
		t.Error(w, told)
	}
	if got := minimize.Minimal(d); !machine.SameDFA(got, machine.Odd()) {
		t.Error(got)
	}
}

// TestNoStates: P8.1, numbers that are not states, and states compared with themselves.
func TestNoStates(t *testing.T) {
	for _, d := range []api.DFA{machine.Odd(), machine.Whole(1, true), machine.Far(6, 512)} {
		states := len(d.Final)
		for _, x := range []int{math.MinInt, -1 << 32, -512, -2, -1, states, states + 1, 512, 1 << 32, math.MaxInt} {
			for _, y := range []int{0, states - 1, states, -1, x, 1 << 33} {
				for _, order := range [][2]int{{x, y}, {y, x}} {
					if w, told := minimize.Distinguish(d, order[0], order[1]); w != "" || told {
						t.Errorf("%d states, %d: %q, %t", states, order, w, told)
					}
				}
			}
		}
		for state := range states {
			if state%50 > 1 {
				continue
			}
			if w, told := minimize.Distinguish(d, state, state); w != "" || told {
				t.Errorf("%d states, %d with itself: %q, %t", states, state, w, told)
			}
		}
	}
}

// TestInvalid: P8.1 to P8.3, automata that are not valid.
func TestInvalid(t *testing.T) {
	wrong := append(machine.WrongDFAs(), machine.WrongDFA{D: api.DFA{}, Why: api.ErrArg}, machine.WrongDFA{D: api.DFA{Letters: 1}, Why: api.ErrShape})
	for i, c := range wrong {
		if got := minimize.Classes(c.D); got != nil {
			t.Errorf("case %d, %s: %s", i, show(c.D), show(got))
		}
		for p := -1; p <= 3; p++ {
			for q := -1; q <= 3; q++ {
				if w, told := minimize.Distinguish(c.D, p, q); w != "" || told {
					t.Errorf("case %d, %s, %d and %d: %q, %t", i, show(c.D), p, q, w, told)
				}
			}
		}
		if got := minimize.Minimal(c.D); !machine.SameDFA(got, api.DFA{}) {
			t.Errorf("case %d, %s: %s", i, show(c.D), show(got))
		}
		m, p, why := minimize.Prove(c.D)
		if why != c.Why || !machine.SameDFA(m, api.DFA{}) || !sameProof(p, api.MinProof{}) {
			t.Errorf("case %d, %s: %s, %s, %d, want %d", i, show(c.D), show(m), show(p), why, c.Why)
		}
	}
}

// TestSameLanguage: P8.2, the minimal automata of all small automata are the same exactly where the words are.
func TestSameLanguage(t *testing.T) {
	lists := [][]api.DFA{
		slices.Concat(machine.AllDFA(1, 1), machine.AllDFA(1, 2), machine.AllDFA(1, 3), machine.AllDFA(1, 4)),
		slices.Concat(machine.AllDFA(2, 1), machine.AllDFA(2, 2), machine.AllDFA(2, 3)),
		slices.Concat(machine.AllDFA(3, 1), machine.AllDFA(3, 2)),
	}
	for i, list := range lists {
		words := tree.Words(i+1, 6-i) // words of less letters than both automata have states tell languages apart
		ofWords, ofMinimal := map[string]string{}, map[string]string{}
		for _, d := range list {
			var accepted strings.Builder
			for _, w := range words {
				accepted.WriteString(map[bool]string{false: "0", true: "1"}[machine.Accepts(d, w)])
			}
			minimal := show(minimize.Minimal(d))
			if known, met := ofWords[accepted.String()]; met && known != minimal {
				t.Fatalf("%s: the words of %s, but %s", show(d), known, minimal)
			}
			if known, met := ofMinimal[minimal]; met && known != accepted.String() {
				t.Fatalf("%s: other words, but the same automaton %s", show(d), minimal)
			}
			ofWords[accepted.String()], ofMinimal[minimal] = minimal, accepted.String()
		}
		if len(ofWords) < 10 {
			t.Error(i+1, "letters, languages:", len(ofWords))
		}
	}
}

// TestOtherAutomata: P8.2, automata that are numbered in another way or whose states are doubled have the same minimal automaton; with a change that the words show, they have another one.
func TestOtherAutomata(t *testing.T) {
	changed, kept := 0, 0
	for i, d := range someDFA(60) {
		s := tree.Source(i)
		want := minimize.Minimal(d)
		if got := minimize.Minimal(want); !machine.SameDFA(got, want) {
			t.Fatalf("%s, twice: %s", show(d), show(got))
		}
		other := machine.Shuffled(&s, d)
		if got := minimize.Minimal(other); !machine.SameDFA(got, want) {
			t.Fatalf("%s: %s, want %s", show(other), show(got), show(want))
		}
		if 2*len(d.Final) <= api.MaxDFA {
			other = machine.Doubled(&s, d)
			if got := minimize.Minimal(other); !machine.SameDFA(got, want) {
				t.Fatalf("%s: %s, want %s", show(other), show(got), show(want))
			}
		}
		state := s.Below(len(other.Final))
		other.Next[state][s.Below(d.Letters)] = s.Below(len(other.Final))
		if i%2 == 0 {
			other.Final[state] = !other.Final[state]
		}
		same := sameWords(other, d)
		if got := machine.SameDFA(minimize.Minimal(other), want); got != same {
			t.Fatalf("%s, changed to %s: %t, want %t", show(d), show(other), got, same)
		}
		if same {
			kept++
		} else {
			changed++
		}
	}
	if changed < 20 || kept < 20 {
		t.Error("a poor choice:", changed, kept)
	}
}
