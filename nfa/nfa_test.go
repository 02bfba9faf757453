package nfa_test

import (
	"math"
	"slices"
	"strings"
	"testing"

	"semigroup/api"
	"semigroup/machine"
	"semigroup/nfa"
	"semigroup/tree"
)

// TestValidate: P6.1, automata that are valid, without states and with MaxNFA states among them.
func TestValidate(t *testing.T) {
	list := slices.Concat(machine.FewNFA(), machine.ScatteredNFA(65))
	for letters := 1; letters <= api.MaxLetters; letters++ {
		for states := 0; states <= api.MaxNFA; states++ {
			full := uint64(1)<<states - 1
			list = append(list, api.NFA{Letters: letters, States: states}, api.NFA{Letters: letters, States: states, Start: full, Final: full})
		}
	}
	list = append(list, machine.ThreeStates(),
		api.NFA{Letters: 6, States: 64, Start: 1 << 63, Final: 1 << 63, Edges: edges([3]int{63, 5, 63})},
		machine.NFA(6, 64, 1, 1, func(from, letter, to int) bool { return true }),
		api.NFA{Letters: 1, States: 1, Edges: []api.Edge{}},
	)
	for _, n := range list {
		if why := nfa.Validate(n); why != api.OK {
			t.Fatal(n, why)
		}
	}
}

// TestValidateErrors: P6.1, wrong fields, and the order of the errors.
func TestValidateErrors(t *testing.T) {
	for i, c := range machine.WrongNFAs() {
		if why := nfa.Validate(c.N); why != c.Why {
			t.Errorf("case %d, %v: %d, want %d", i, c.N, why, c.Why)
		}
	}
	for _, states := range []int{0, 1, 31, 32, 33, 63} {
		for bit := states; bit < 64; bit++ {
			for _, n := range []api.NFA{{Letters: 1, States: states, Start: 1 << bit}, {Letters: 1, States: states, Final: 1 << bit}} {
				if why := nfa.Validate(n); why != api.ErrShape {
					t.Errorf("%v: %d", n, why)
				}
			}
		}
	}
}

// TestValidateOrder: P6.1, all pairs of edges, equal ones among them, and an edge that does not fit between others that do.
func TestValidateOrder(t *testing.T) {
	every := machine.NFA(2, 3, 0, 0, func(from, letter, to int) bool { return true })
	for i := range every.Edges {
		for j := range every.Edges {
			n := api.NFA{Letters: 2, States: 3, Edges: []api.Edge{every.Edges[i], every.Edges[j]}}
			want := api.ErrShape
			if i < j {
				want = api.OK
			}
			if why := nfa.Validate(n); why != want {
				t.Errorf("%v: %d, want %d", n.Edges, why, want)
			}
		}
	}
}

// TestInvalid: P6.1, the zero values for automata that are not valid, and the errors of Sum.
func TestInvalid(t *testing.T) {
	for i, c := range machine.WrongNFAs() {
		for letter := -1; letter <= api.MaxLetters; letter++ {
			if nfa.Step(c.N, math.MaxUint64, letter) != 0 {
				t.Errorf("case %d: Step with %d", i, letter)
			}
		}
		for _, w := range tree.Words(2, 3) {
			if nfa.Accepts(c.N, w) || nfa.Runs(c.N, w) != 0 {
				t.Errorf("case %d: %q", i, w)
			}
		}
		if !machine.SameNFA(nfa.Reverse(c.N), api.NFA{}) || !machine.SameNFA(nfa.Trim(c.N), api.NFA{}) || nfa.Reachable(c.N) != 0 || nfa.Coreachable(c.N) != 0 || nfa.Unambiguous(c.N) {
			t.Errorf("case %d: not zero: %v", i, c.N)
		}
		c.N.Start, c.N.Final, c.N.Edges = 0, 0, nil
		if why := nfa.Validate(c.N); why != api.OK && nfa.Unambiguous(c.N) {
			t.Errorf("case %d: Unambiguous", i)
		}
	}
}

// TestStep: P6.2, all sets of states of small automata, with bits that stand for no states, and letters out of range.
func TestStep(t *testing.T) {
	letters := []int{math.MinInt, -1, 0, 1, 2, 5, 6, 64, 1 << 32, math.MaxInt}
	for _, n := range machine.FewNFA() {
		for set := range uint64(1) << (n.States + 1) {
			for _, letter := range letters {
				var want uint64
				for _, e := range n.Edges {
					if e.Letter == letter && in(e.From, set) {
						want |= 1 << e.To
					}
				}
				for _, more := range []uint64{0, math.MaxUint64 << n.States} {
					if got := nfa.Step(n, set|more, letter); got != want {
						t.Fatalf("%v from %b with %d: %b, want %b", n, set|more, letter, got, want)
					}
				}
			}
		}
	}
	cycle := machine.NFA(6, 64, 1, 1, func(from, letter, to int) bool { return to == (from+letter)%64 })
	for letter := range 6 {
		set := uint64(1<<63 | 1<<40 | 1)
		if got, want := nfa.Step(cycle, set, letter), set<<letter|set>>(64-letter); got != want {
			t.Errorf("cycle with %d: %b, want %b", letter, got, want)
		}
	}
}

// checkRuns compares Runs and Accepts with the definition by lists of states.
func checkRuns(t *testing.T, n api.NFA, w string) {
	t.Helper()
	want := runs(n, w)
	if got := nfa.Runs(n, w); got != want {
		t.Fatalf("%v, %q: %d, want %d", n, w, got, want)
	}
	if got := nfa.Accepts(n, w); got != (want > 0) {
		t.Fatalf("%v, %q: %t", n, w, got)
	}
}

// TestRuns: P6.2, all small automata, and random ones of all sizes.
func TestRuns(t *testing.T) {
	for _, n := range machine.FewNFA() {
		for _, w := range tree.Words(n.Letters, 4) {
			checkRuns(t, n, w)
		}
	}
	for i, n := range machine.ScatteredNFA(200) {
		s := tree.Source(i)
		for k := range 4 {
			checkRuns(t, n, s.Long(k, n.Letters))
		}
	}
}

// TestWords: P6.2, what is no word over the letters of the automaton, and the longest words.
func TestWords(t *testing.T) {
	for letters := 1; letters <= api.MaxLetters; letters++ {
		n := machine.NFA(letters, 1, 1, 1, func(from, letter, to int) bool { return true })
		long := strings.Repeat("a", api.MaxWord)
		for w, want := range map[string]bool{
			"": true, "a": true, "b": letters > 1, "bab": letters > 1, "c": letters > 2, "f": letters > 5, "af": letters > 5, "fa": letters > 5, "g": false, "ag": false,
			"A": false, "`": false, " ": false, "a a": false, "é": false, "a\x00": false, "\xff": false, "1": false, long: true, long + "a": false, long[1:] + "g": false,
		} {
			count := 0
			if want {
				count = 1
			}
			if nfa.Accepts(n, w) != want || nfa.Runs(n, w) != count {
				t.Errorf("%d letters, %.9q of %d bytes: %t, %d", letters, w, len(w), nfa.Accepts(n, w), nfa.Runs(n, w))
			}
		}
	}
}

// TestManyRuns: P6.2, words with about 2^31 runs and with many more, and words that have few accepting runs among many others.
func TestManyRuns(t *testing.T) {
	full := func(states int, start, final uint64) api.NFA {
		return machine.NFA(2, states, start, final, func(from, letter, to int) bool { return letter == 0 })
	}
	// less has one accepting run less than there are lists of two things.
	less := api.NFA{Letters: 2, States: 3, Start: 1, Final: 6, Edges: edges([3]int{0, 0, 0}, [3]int{0, 0, 1}, [3]int{1, 0, 1}, [3]int{1, 0, 2}, [3]int{2, 0, 1}, [3]int{2, 0, 2})}
	single := full(1, 1, 1)
	sum := func(a, b api.NFA) api.NFA {
		n, why := nfa.Sum(a, b)
		if why != api.OK {
			t.Fatal(why)
		}
		return n
	}
	// lost gets many runs into states that are not final, from which b leads to a final one.
	lost := full(3, 1, 0)
	lost.Edges = slices.Insert(lost.Edges, 3, api.Edge{From: 0, Letter: 1, To: 0})
	onto := api.NFA{Letters: 2, States: 3, Start: 1, Final: 4, Edges: edges([3]int{0, 0, 0}, [3]int{0, 0, 1}, [3]int{0, 1, 2}, [3]int{1, 0, 0}, [3]int{1, 0, 1})}
	const most = 1 << 31
	for i, c := range []struct {
		n      api.NFA
		length int
		end    string
		want   int
	}{
		{full(2, 1, 1), 1, "", 1}, {full(2, 1, 1), 31, "", most / 2}, {full(2, 1, 1), 32, "", most}, {full(2, 1, 1), 33, "", most}, {full(2, 3, 3), 30, "", most}, {full(2, 3, 3), 31, "", most},
		{full(2, 3, 3), 0, "", 2}, {full(2, 3, 3), 61, "", most}, {full(2, 3, 3), 62, "", most}, {full(2, 3, 3), 63, "", most}, {full(2, 3, 3), 64, "", most}, {full(2, 3, 3), 2048, "", most},
		{less, 30, "", most/2 - 1}, {less, 31, "", most - 1}, {less, 32, "", most}, {less, 64, "", most}, {less, 100, "", most},
		{sum(less, single), 31, "", most}, {sum(single, less), 31, "", most}, {sum(sum(less, single), single), 31, "", most}, {sum(less, less), 30, "", most - 2}, {sum(less, less), 31, "", most},
		{full(64, math.MaxUint64, math.MaxUint64), 4, "", 1 << 30}, {full(64, math.MaxUint64, math.MaxUint64), 5, "", most}, {full(64, math.MaxUint64, math.MaxUint64), 2048, "", most},
		{full(64, math.MaxUint64, 0), 2048, "", 0}, {full(64, 0, math.MaxUint64), 2048, "", 0}, {full(64, math.MaxUint64, 1), 6, "", most},
		{lost, 100, "b", 0}, {sum(lost, single), 100, "", 1}, {sum(single, lost), 2048, "", 1}, {onto, 31, "b", most / 2}, {onto, 32, "b", most}, {onto, 2047, "b", most}, {onto, 2047, "", 0}, {onto, 50, "bb", 0},
	} {
		if got := nfa.Runs(c.n, strings.Repeat("a", c.length)+c.end); got != c.want {
			t.Errorf("case %d: %d, want %d", i, got, c.want)
		}
	}
}

// ambiguous reports whether one of some words has two accepting runs.
func ambiguous(n api.NFA, words []string) bool {
	return slices.ContainsFunc(words, func(w string) bool { return runs(n, w) > 1 })
}

// TestUnambiguous: P6.2, small automata against the definition. If there are two runs for a word, there are two for one
// along which no pair of states occurs twice.
func TestUnambiguous(t *testing.T) {
	var powers []string
	for n := range 9 {
		powers = append(powers, strings.Repeat("a", n))
	}
	for _, n := range machine.FewNFA() {
		words := powers
		if n.Letters == 2 {
			words = tree.Words(2, 4)
		}
		if got := nfa.Unambiguous(n); got == ambiguous(n, words) {
			t.Fatalf("%v: %t", n, got)
		}
	}
	words := tree.Words(2, 8)
	count := 0
	for i := range 1500 {
		s := tree.Source(i)
		n := machine.RandomNFA(&s, 2, 3, 3)
		got := nfa.Unambiguous(n)
		if got == ambiguous(n, words) {
			t.Fatalf("%v: %t", n, got)
		}
		if got {
			count++
		}
	}
	if count < 200 || count > 1300 {
		t.Error(count, "of 1500 are unambiguous")
	}
}

// cycles has a start state in each of two cycles, which a letter leads around; the states x and y of the two are final.
func cycles(one, two, x, y int) api.NFA {
	return machine.NFA(1, one+two, 1|1<<one, 1<<x|1<<(one+y), func(from, letter, to int) bool {
		if from < one {
			return to == (from+1)%one
		}
		return to == one+(from-one+1)%two
	})
}

// TestUnambiguousByHand: P6.2, automata with useless states, with MaxNFA states, and with two runs for long words alone.
func TestUnambiguousByHand(t *testing.T) {
	chain := machine.NFA(6, 64, 1, math.MaxUint64, func(from, letter, to int) bool { return to == from+1 })
	for i, c := range []struct {
		n    api.NFA
		want bool
	}{
		{api.NFA{Letters: 1}, true}, {api.NFA{Letters: 1, States: 64}, true},
		{api.NFA{Letters: 1, States: 2, Start: 3, Final: 1}, true}, {api.NFA{Letters: 1, States: 2, Start: 3, Final: 3}, false},
		{api.NFA{Letters: 6, States: 64, Start: math.MaxUint64, Final: 1 << 63}, true}, {api.NFA{Letters: 6, States: 64, Start: math.MaxUint64, Final: 1<<63 | 1}, false},
		// Two states to choose from, of which none or one leads on to a final state, or both with different letters.
		{api.NFA{Letters: 2, States: 4, Start: 1, Final: 8, Edges: edges([3]int{0, 0, 1}, [3]int{0, 0, 2}, [3]int{1, 0, 3})}, true},
		{api.NFA{Letters: 2, States: 4, Start: 1, Final: 8, Edges: edges([3]int{0, 0, 1}, [3]int{0, 0, 2}, [3]int{1, 0, 3}, [3]int{2, 1, 3})}, true},
		{api.NFA{Letters: 2, States: 4, Start: 1, Final: 8, Edges: edges([3]int{0, 0, 1}, [3]int{0, 0, 2}, [3]int{1, 0, 3}, [3]int{2, 0, 3})}, false},
		{api.NFA{Letters: 2, States: 4, Start: 1, Final: 8, Edges: edges([3]int{0, 0, 1}, [3]int{0, 1, 2}, [3]int{1, 0, 3}, [3]int{2, 0, 3})}, true},
		{api.NFA{Letters: 2, States: 4, Start: 0, Final: 8, Edges: edges([3]int{0, 0, 1}, [3]int{0, 0, 2}, [3]int{1, 0, 3}, [3]int{2, 0, 3})}, true},
		{chain, true}, {nfa.Reverse(chain), true}, {machine.NFA(6, 64, 1, 1, func(from, letter, to int) bool { return true }), false},
		{cycles(31, 33, 30, 32), false}, {cycles(32, 32, 30, 31), true}, {cycles(32, 32, 31, 31), false}, {cycles(30, 33, 0, 1), true}, {cycles(30, 33, 29, 32), false}, {cycles(30, 33, 29, 31), true},
	} {
		if got := nfa.Unambiguous(c.n); got != c.want {
			t.Errorf("case %d: %t", i, got)
		}
	}
}

// TestReverse: P6.3, against the definition: which edges there are, and that the result is valid. Twice reversed is not changed.
func TestReverse(t *testing.T) {
	for _, n := range slices.Concat(machine.FewNFA(), machine.ScatteredNFA(65)) {
		want := api.NFA{Letters: n.Letters, States: n.States, Start: n.Final, Final: n.Start}
		for _, e := range n.Edges {
			want.Edges = append(want.Edges, api.Edge{From: e.To, Letter: e.Letter, To: e.From})
		}
		slices.SortFunc(want.Edges, func(a, b api.Edge) int {
			return (a.From-b.From)*1000000 + (a.Letter-b.Letter)*1000 + a.To - b.To
		})
		got := nfa.Reverse(n)
		if !machine.SameNFA(got, want) || nfa.Validate(got) != api.OK || !machine.SameNFA(nfa.Reverse(got), n) {
			t.Fatalf("%v: %v", n, got)
		}
	}
}

// reached is the definition of the states on runs.
func reached(n api.NFA) uint64 {
	set := n.Start
	for range n.States {
		for _, e := range n.Edges {
			if in(e.From, set) {
				set |= 1 << e.To
			}
		}
	}
	return set
}

// leading is the definition of the states from which edges lead to a final state.
func leading(n api.NFA) uint64 {
	set := n.Final
	for range n.States {
		for _, e := range n.Edges {
			if in(e.To, set) {
				set |= 1 << e.From
			}
		}
	}
	return set
}

// trimmed is the definition of Trim.
func trimmed(n api.NFA) api.NFA {
	var kept []int
	for state := range n.States {
		if in(state, reached(n)&leading(n)) {
			kept = append(kept, state)
		}
	}
	t := api.NFA{Letters: n.Letters, States: len(kept)}
	for i, state := range kept {
		if in(state, n.Start) {
			t.Start |= 1 << i
		}
		if in(state, n.Final) {
			t.Final |= 1 << i
		}
	}
	for _, e := range n.Edges {
		from, to := slices.Index(kept, e.From), slices.Index(kept, e.To)
		if from >= 0 && to >= 0 {
			t.Edges = append(t.Edges, api.Edge{From: from, Letter: e.Letter, To: to})
		}
	}
	return t
}

// TestTrim: P6.3, Reachable, Coreachable and Trim against the definitions.
func TestTrim(t *testing.T) {
	sizes := map[int]bool{}
	for _, n := range slices.Concat(machine.FewNFA(), machine.ScatteredNFA(1000)) {
		if got := nfa.Reachable(n); got != reached(n) {
			t.Fatalf("%v: reachable %b, want %b", n, got, reached(n))
		}
		if got := nfa.Coreachable(n); got != leading(n) {
			t.Fatalf("%v: coreachable %b, want %b", n, got, leading(n))
		}
		got := nfa.Trim(n)
		if !machine.SameNFA(got, trimmed(n)) || nfa.Validate(got) != api.OK {
			t.Fatalf("%v: %v, want %v", n, got, trimmed(n))
		}
		sizes[got.States*100/max(n.States, 1)] = true
	}
	if len(sizes) < 50 {
		t.Error("too few kinds of automata:", len(sizes))
	}
}

// TestTrimByHand: P6.3, states on no run, at either end and in the middle.
func TestTrimByHand(t *testing.T) {
	line := machine.NFA(2, 64, 1, 1<<63, func(from, letter, to int) bool { return to == from+1 && letter == from%2 })
	cut := machine.CloneNFA(line)
	cut.Edges = slices.Delete(cut.Edges, 40, 41)
	for i, c := range []struct {
		n                      api.NFA
		reachable, coreachable uint64
		trim                   api.NFA
	}{
		{api.NFA{Letters: 3}, 0, 0, api.NFA{Letters: 3}},
		{api.NFA{Letters: 3, States: 64}, 0, 0, api.NFA{Letters: 3}},
		{api.NFA{Letters: 1, States: 2, Start: 1, Final: 2}, 1, 2, api.NFA{Letters: 1}},
		{api.NFA{Letters: 1, States: 64, Start: 1<<63 | 2, Final: 1<<63 | 1}, 1<<63 | 2, 1<<63 | 1, api.NFA{Letters: 1, States: 1, Start: 1, Final: 1}},
		{line, math.MaxUint64, math.MaxUint64, line}, {cut, 1<<41 - 1, 1<<64 - 1<<41, api.NFA{Letters: 2}},
		// 0 is not reachable, 2 leads nowhere, 5 is on no edge; 1, 3, 4 are left.
		{api.NFA{Letters: 2, States: 6, Start: 10, Final: 16, Edges: edges([3]int{0, 0, 4}, [3]int{0, 1, 1}, [3]int{1, 0, 2}, [3]int{1, 0, 3}, [3]int{1, 1, 1}, [3]int{3, 1, 4}, [3]int{4, 0, 2}, [3]int{4, 1, 1})}, 30, 27,
			api.NFA{Letters: 2, States: 3, Start: 3, Final: 4, Edges: edges([3]int{0, 0, 1}, [3]int{0, 1, 0}, [3]int{1, 1, 2}, [3]int{2, 1, 0})}},
	} {
		if x, y, n := nfa.Reachable(c.n), nfa.Coreachable(c.n), nfa.Trim(c.n); x != c.reachable || y != c.coreachable || !machine.SameNFA(n, c.trim) {
			t.Errorf("case %d: %b, %b, %v", i, x, y, n)
		}
	}
}

// TestSum: P6.4, against the definition.
func TestSum(t *testing.T) {
	list := slices.Concat(machine.AllNFA(1, 0), machine.AllNFA(1, 1), machine.AllNFA(1, 2)[:200], machine.ScatteredNFA(65))
	for _, a := range list {
		for _, b := range list {
			want, wanted := api.NFA{}, api.OK
			switch {
			case a.Letters != b.Letters:
				wanted = api.ErrArg
			case a.States+b.States > api.MaxNFA:
				wanted = api.ErrLimit
			default:
				want = machine.NFA(a.Letters, a.States+b.States, 0, 0, func(from, letter, to int) bool { return false })
				for state := range want.States {
					if state < a.States && in(state, a.Start) || state >= a.States && in(state-a.States, b.Start) {
						want.Start |= 1 << state
					}
					if state < a.States && in(state, a.Final) || state >= a.States && in(state-a.States, b.Final) {
						want.Final |= 1 << state
					}
				}
				want.Edges = slices.Clone(a.Edges)
				for _, e := range b.Edges {
					want.Edges = append(want.Edges, api.Edge{From: e.From + a.States, Letter: e.Letter, To: e.To + a.States})
				}
			}
			got, why := nfa.Sum(a, b)
			if why != wanted || !machine.SameNFA(got, want) || why == api.OK && nfa.Validate(got) != api.OK {
				t.Fatalf("%v and %v: %v, %d, want %v, %d", a, b, got, why, want, wanted)
			}
		}
	}
}

// TestSumErrors: P6.4, the order of the errors, and sums of exactly MaxNFA states and of one more.
func TestSumErrors(t *testing.T) {
	of := func(letters, states int) api.NFA {
		full := uint64(1)<<states - 1
		return machine.NFA(letters, states, full, full, func(from, letter, to int) bool { return from == to })
	}
	for _, c := range machine.WrongNFAs() {
		for _, n := range []api.NFA{of(2, 3), of(1, 3), of(1, 64), of(2, 64)} {
			if got, why := nfa.Sum(c.N, n); why != c.Why || !machine.SameNFA(got, api.NFA{}) {
				t.Errorf("%v and %v: %v, %d", c.N, n, got, why)
			}
			if got, why := nfa.Sum(n, c.N); why != c.Why || !machine.SameNFA(got, api.NFA{}) {
				t.Errorf("%v and %v: %v, %d", n, c.N, got, why)
			}
		}
	}
	argument, shape := api.NFA{Letters: 1, States: 65}, api.NFA{Letters: 1, States: 1, Final: 2}
	for i, c := range []struct {
		a, b api.NFA
		why  api.Errno
	}{
		{argument, shape, api.ErrArg}, {shape, argument, api.ErrShape}, {argument, argument, api.ErrArg}, {shape, shape, api.ErrShape},
		{of(1, 64), of(2, 1), api.ErrArg}, {of(6, 1), of(5, 64), api.ErrArg}, {of(2, 0), of(1, 0), api.ErrArg},
		{of(6, 64), of(6, 0), api.OK}, {of(6, 0), of(6, 64), api.OK}, {of(3, 1), of(3, 63), api.OK}, {of(3, 32), of(3, 32), api.OK}, {of(1, 0), of(1, 0), api.OK},
		{of(6, 64), of(6, 1), api.ErrLimit}, {of(6, 1), of(6, 64), api.ErrLimit}, {of(3, 33), of(3, 32), api.ErrLimit}, {of(1, 64), of(1, 64), api.ErrLimit},
	} {
		want := api.NFA{}
		if c.why == api.OK {
			want = of(c.a.Letters, c.a.States+c.b.States)
		}
		if got, why := nfa.Sum(c.a, c.b); why != c.why || !machine.SameNFA(got, want) {
			t.Errorf("case %d: %v, %d", i, got, why)
		}
	}
}

// TestLanguages: P6.2 to P6.4, the words that the results accept: reversed words, the same words, and words of one or the other.
func TestLanguages(t *testing.T) {
	words := tree.Words(2, 5)
	for i := range 300 {
		s := tree.Source(i)
		a, b := machine.RandomNFA(&s, 2, 1+s.Below(5), 4), machine.RandomNFA(&s, 2, s.Below(5), 3)
		sum, why := nfa.Sum(a, b)
		if why != api.OK {
			t.Fatal(why)
		}
		for _, w := range words {
			count := runs(a, w)
			if nfa.Runs(a, w) != count || nfa.Runs(nfa.Reverse(a), backwards(w)) != count || nfa.Runs(nfa.Trim(a), w) != count || nfa.Runs(sum, w) != count+runs(b, w) {
				t.Fatalf("%v, %v, %q: %d", a, b, w, count)
			}
		}
	}
}

// TestArguments: R3 and R4, automata that other memory lies behind, and results that share none with the arguments.
func TestArguments(t *testing.T) {
	list := slices.Concat(machine.ScatteredNFA(65), []api.NFA{machine.ThreeStates(), {Letters: 1}})
	for _, c := range machine.WrongNFAs() {
		list = append(list, c.N)
	}
	for _, n := range list {
		n = machine.SpareNFA(n)
		before := machine.CloneNFA(n)
		var first []api.NFA
		for i := range 2 {
			twice, _ := nfa.Sum(n, n)
			left, _ := nfa.Sum(n, api.NFA{Letters: n.Letters})
			right, _ := nfa.Sum(api.NFA{Letters: n.Letters}, n)
			results := []api.NFA{nfa.Reverse(n), nfa.Trim(n), twice, left, right}
			nfa.Step(n, 5, 0)
			nfa.Accepts(n, "ab")
			nfa.Runs(n, "ab")
			nfa.Unambiguous(n)
			if i == 0 {
				for _, x := range results {
					first = append(first, machine.CloneNFA(x))
					machine.ScribbleNFA(x)
				}
			} else if !slices.EqualFunc(first, results, machine.SameNFA) {
				t.Fatal("not the same results:", n)
			}
		}
		if !machine.UntouchedNFA(n, before) {
			t.Fatal("an argument was modified:", before)
		}
	}
}
