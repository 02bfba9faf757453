package dfa_test

import (
	"fmt"
	"math"
	"slices"
	"strings"
	"testing"

	"semigroup/api"
	"semigroup/dfa"
	"semigroup/machine"
	"semigroup/nfa"
	"semigroup/tree"
)

// show writes a value for a message: the beginning, if it is large.
func show(x any) string {
	text := fmt.Sprint(x)
	return text[:min(len(text), 300)]
}

// TestValidate: P7.1, automata that are valid, of 1 to MaxDFA states over each number of letters.
func TestValidate(t *testing.T) {
	list := slices.Concat(machine.FewDFA(), machine.ScatteredDFA(200), []api.DFA{machine.Odd()})
	for letters := 1; letters <= api.MaxLetters; letters++ {
		for _, states := range []int{1, 2, 63, 64, 65, 511, 512} {
			last := machine.DFA(letters, states-1, make([]bool, states), func(state, letter int) int { return states - 1 })
			list = append(list, machine.Cycle(letters, states, letters-1), last)
		}
	}
	for _, d := range list {
		if why := dfa.Validate(d); why != api.OK {
			t.Fatal(show(d), why)
		}
	}
}

// TestValidateErrors: P7.1, wrong fields, and the order of the errors.
func TestValidateErrors(t *testing.T) {
	for i, c := range machine.WrongDFAs() {
		if why := dfa.Validate(c.D); why != c.Why {
			t.Errorf("case %d, %s: %d, want %d", i, show(c.D), why, c.Why)
		}
	}
	for i, c := range []struct {
		d   api.DFA
		why api.Errno
	}{
		{api.DFA{}, api.ErrArg}, {api.DFA{Letters: 7, Final: make([]bool, 513)}, api.ErrArg}, {api.DFA{Letters: 6, Final: make([]bool, 513), Start: -1}, api.ErrLimit},
		{api.DFA{Letters: 1}, api.ErrShape}, {api.DFA{Letters: 1, Next: [][]int{{0}}}, api.ErrShape}, {api.DFA{Letters: 1, Next: make([][]int, 513)}, api.ErrShape},
		{api.DFA{Letters: 1, Final: []bool{true}, Next: [][]int{}}, api.ErrShape}, {api.DFA{Letters: 1, Final: []bool{true}, Next: [][]int{{}}}, api.ErrShape},
	} {
		if why := dfa.Validate(c.d); why != c.why {
			t.Errorf("case %d, %s: %d, want %d", i, show(c.d), why, c.why)
		}
	}
}

// TestInvalid: P7.1, the zero values for automata that are not valid, and the errors.
func TestInvalid(t *testing.T) {
	for i, c := range machine.WrongDFAs() {
		for state := -1; state <= 3; state++ {
			for _, w := range []string{"", "a", "b", "ab"} {
				if got := dfa.Run(c.D, state, w); got != -1 {
					t.Errorf("case %d: Run %d, %q: %d", i, state, w, got)
				}
			}
		}
		for _, w := range tree.Words(2, 3) {
			if dfa.Accepts(c.D, w) {
				t.Errorf("case %d: %q", i, w)
			}
		}
		trim, number := dfa.Trim(c.D)
		if !machine.SameDFA(trim, api.DFA{}) || len(number) != 0 || len(dfa.Access(c.D)) != 0 || !machine.SameDFA(dfa.Complement(c.D), api.DFA{}) {
			t.Errorf("case %d: not zero: %s", i, show(c.D))
		}
		if w, ok := dfa.Shortest(c.D); w != "" || ok {
			t.Errorf("case %d: Shortest", i)
		}
		for n := range 7 {
			if dfa.Count(c.D, n) != 0 || dfa.Words(c.D, n) != nil {
				t.Errorf("case %d: %d", i, n)
			}
		}
		if dfa.Infinite(c.D) {
			t.Errorf("case %d: Infinite", i)
		}
		if n, why := dfa.ToNFA(c.D); why != c.Why || !machine.SameNFA(n, api.NFA{}) {
			t.Errorf("case %d: ToNFA: %d", i, why)
		}
	}
}

// TestRun: P7.2, all small automata, and random ones of all sizes.
func TestRun(t *testing.T) {
	check := func(d api.DFA, w string) {
		for state := -1; state <= len(d.Final); state++ {
			want := -1
			if state >= 0 && state < len(d.Final) {
				want = machine.State(d, state, w)
			}
			if got := dfa.Run(d, state, w); got != want {
				t.Fatalf("%s from %d with %q: %d, want %d", show(d), state, w, got, want)
			}
		}
		if got := dfa.Accepts(d, w); got != machine.Accepts(d, w) {
			t.Fatalf("%s: %q: %t", show(d), w, got)
		}
	}
	for _, d := range machine.FewDFA() {
		for _, w := range tree.Words(d.Letters, 3) {
			check(d, w)
		}
	}
	for i, d := range machine.ScatteredDFA(100) {
		s := tree.Source(i)
		for _, n := range []int{0, 1, 2, 17} {
			check(d, s.Long(n, d.Letters))
		}
		w := s.Long(api.MaxWord, d.Letters)
		if got := dfa.Run(d, d.Start, w); got != machine.State(d, d.Start, w) {
			t.Fatalf("%s with a word of %d letters: %d", show(d), len(w), got)
		}
	}
}

// TestRunByHand: P7.2, the examples, and states that are none.
func TestRunByHand(t *testing.T) {
	for _, c := range []struct {
		state int
		w     string
		want  int
	}{
		{0, "aba", 0}, {0, "ab", 1}, {0, "", 0}, {1, "", 1}, {1, "bbb", 1}, {1, "bab", 0},
		{-1, "", -1}, {2, "", -1}, {2, "a", -1}, {math.MinInt, "a", -1}, {math.MaxInt, "a", -1}, {1 << 32, "", -1}, {0, "c", -1}, {0, "abc", -1},
	} {
		if got := dfa.Run(machine.Odd(), c.state, c.w); got != c.want {
			t.Errorf("%d, %q: %d, want %d", c.state, c.w, got, c.want)
		}
	}
}

// TestStrings: P7.2, what is no word over the letters of the automaton, and the longest words.
func TestStrings(t *testing.T) {
	long := strings.Repeat("a", api.MaxWord)
	for letters := 1; letters <= api.MaxLetters; letters++ {
		d := machine.Whole(letters, true)
		for w, want := range map[string]bool{
			"": true, "a": true, "b": letters > 1, "bab": letters > 1, "c": letters > 2, "f": letters > 5, "af": letters > 5, "fa": letters > 5, "g": false, "ag": false,
			"A": false, "`": false, " ": false, "a a": false, "é": false, "a\x00": false, "\xff": false, "1": false, long: true, long + "a": false, long[1:] + "g": false,
		} {
			state := -1
			if want {
				state = 0
			}
			if dfa.Accepts(d, w) != want || dfa.Run(d, 0, w) != state {
				t.Errorf("%d letters, %.9q of %d bytes: %t, %d", letters, w, len(w), dfa.Accepts(d, w), dfa.Run(d, 0, w))
			}
		}
	}
}

// TestComplement: P7.5, the fields, and the words.
func TestComplement(t *testing.T) {
	for _, d := range slices.Concat(machine.FewDFA(), machine.ScatteredDFA(100)) {
		got := dfa.Complement(d)
		want := machine.CloneDFA(d)
		for state := range want.Final {
			want.Final[state] = !want.Final[state]
		}
		if !machine.SameDFA(got, want) || !machine.SameDFA(dfa.Complement(got), d) {
			t.Fatalf("%s: %s", show(d), show(got))
		}
		for _, w := range []string{"", "a", "aa"} {
			if dfa.Accepts(got, w) == dfa.Accepts(d, w) {
				t.Fatalf("%s: %q", show(d), w)
			}
		}
	}
	if got := dfa.Complement(machine.Odd()); !machine.SameDFA(got, api.DFA{Letters: 2, Final: []bool{true, false}, Next: [][]int{{1, 0}, {0, 1}}}) {
		t.Error(got)
	}
}

// TestToNFA: P7.7, the fields, and automata of MaxNFA states and of more.
func TestToNFA(t *testing.T) {
	list := slices.Concat(machine.FewDFA(), machine.ScatteredDFA(200), []api.DFA{machine.Odd()})
	for letters := 1; letters <= api.MaxLetters; letters++ {
		for _, states := range []int{1, 63, 64, 65, 66, 512} {
			d := machine.Cycle(letters, states, letters-1)
			d.Start = states - 1
			list = append(list, d, dfa.Complement(d))
		}
	}
	for _, d := range list {
		got, why := dfa.ToNFA(d)
		if len(d.Final) > 64 {
			if why != api.ErrLimit || !machine.SameNFA(got, api.NFA{}) {
				t.Fatalf("%d states: %d", len(d.Final), why)
			}
			continue
		}
		var final uint64
		for state := range d.Final {
			if d.Final[state] {
				final |= 1 << state
			}
		}
		want := machine.NFA(d.Letters, len(d.Final), 1<<d.Start, final, func(from, letter, to int) bool { return d.Next[from][letter] == to })
		if why != api.OK || !machine.SameNFA(got, want) || nfa.Validate(got) != api.OK {
			t.Fatalf("%s: %s, %d", show(d), show(got), why)
		}
	}
	got, why := dfa.ToNFA(machine.Odd())
	if why != api.OK || !machine.SameNFA(got, api.NFA{Letters: 2, States: 2, Start: 1, Final: 2, Edges: machine.Edges([3]int{0, 0, 1}, [3]int{0, 1, 0}, [3]int{1, 0, 0}, [3]int{1, 1, 1})}) {
		t.Error(got, why)
	}
}

// results collects what all functions return for some automata.
type results struct {
	dfas    []api.DFA
	nfas    []api.NFA
	words   []string
	numbers []int
	sets    []uint64
}

// everything calls all functions that return lists.
func everything(d api.DFA, n api.NFA) results {
	trim, number := dfa.Trim(d)
	subset, sets, _ := dfa.Subset(n)
	left, _ := dfa.Product(d, machine.Odd(), 9)
	right, _ := dfa.Product(machine.Odd(), d, 5)
	twice, _ := dfa.Product(d, d, 14)
	same, _ := dfa.ToNFA(d)
	dfa.Run(d, d.Start, "ab")
	dfa.Accepts(d, "ab")
	dfa.Shortest(d)
	dfa.Count(d, 3)
	dfa.Infinite(d)
	dfa.Validate(d)
	return results{
		dfas:    []api.DFA{trim, subset, dfa.Complement(d), left, right, twice},
		nfas:    []api.NFA{same},
		words:   slices.Concat(dfa.Access(d), dfa.Words(d, 20)),
		numbers: number,
		sets:    sets,
	}
}

func (r results) same(s results) bool {
	return slices.EqualFunc(r.dfas, s.dfas, machine.SameDFA) && slices.EqualFunc(r.nfas, s.nfas, machine.SameNFA) && slices.Equal(r.words, s.words) && slices.Equal(r.numbers, s.numbers) && slices.Equal(r.sets, s.sets)
}

func (r results) scribble() {
	for _, d := range r.dfas {
		machine.ScribbleDFA(d)
	}
	for _, n := range r.nfas {
		machine.ScribbleNFA(n)
	}
	clear(r.words)
	clear(r.numbers[:cap(r.numbers)])
	clear(r.sets[:cap(r.sets)])
}

// TestArguments: R3 and R4, arguments that stay as they are, with what lies behind their lists, and results that share no memory with them or with each other.
func TestArguments(t *testing.T) {
	list := slices.Concat(machine.AllDFA(2, 2), machine.ScatteredDFA(40))
	for _, c := range machine.WrongDFAs() {
		list = append(list, c.D)
	}
	few := machine.ScatteredNFA(50)
	for i, d := range list {
		d, n := machine.SpareDFA(d), machine.SpareNFA(few[i%len(few)])
		copied, also := machine.CloneDFA(d), machine.CloneNFA(n)
		first := everything(d, n)
		everything(d, n).scribble()
		if !machine.UntouchedDFA(d, copied) || !machine.UntouchedNFA(n, also) {
			t.Fatal("an argument has changed:", show(copied))
		}
		if !first.same(everything(d, n)) {
			t.Fatal("not the same results:", show(copied))
		}
		machine.ScribbleDFA(d)
		machine.ScribbleNFA(n)
		if !first.same(everything(copied, also)) {
			t.Fatal("results share memory with arguments:", show(copied))
		}
	}
}

// TestRows: R3, rows of results that share no memory with each other.
func TestRows(t *testing.T) {
	few := machine.ScatteredNFA(30)
	for i, d := range machine.ScatteredDFA(30) {
		for _, x := range everything(d, few[i]).dfas {
			for state, row := range x.Next {
				copy(row[:cap(row)], slices.Repeat([]int{state}, cap(row)))
			}
			for state, row := range x.Next {
				if slices.ContainsFunc(row[:cap(row)], func(to int) bool { return to != state }) {
					t.Fatal("rows share memory:", show(d))
				}
			}
		}
	}
}
