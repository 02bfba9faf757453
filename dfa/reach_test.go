package dfa_test

import (
	"math"
	"slices"
	"strings"
	"testing"

	"semigroup/api"
	"semigroup/dfa"
	"semigroup/expr"
	"semigroup/machine"
	"semigroup/nfa"
	"semigroup/tree"
	"semigroup/word"
)

// numbering is the numbering of P7.3, as it is written: what is met from start, and the numbers of the successors. It stops when there are more than most.
func numbering[T comparable](letters int, start T, next func(from T, letter int) T, most int) ([]T, [][]int) {
	met := []T{start}
	var rows [][]int
	for len(rows) < len(met) && len(met) <= most {
		var row []int
		for letter := range letters {
			to := next(met[len(rows)], letter)
			if !slices.Contains(met, to) {
				met = append(met, to)
			}
			row = append(row, slices.Index(met, to))
		}
		rows = append(rows, row)
	}
	return met, rows
}

// trimmed is P7.3 for a valid automaton.
func trimmed(d api.DFA) (api.DFA, []int) {
	met, rows := numbering(d.Letters, d.Start, func(state, letter int) int { return d.Next[state][letter] }, api.MaxDFA)
	t := api.DFA{Letters: d.Letters, Next: rows}
	for _, state := range met {
		t.Final = append(t.Final, d.Final[state])
	}
	var number []int
	for state := range d.Final {
		number = append(number, slices.Index(met, state))
	}
	return t, number
}

// least lists for each state the least word that leads to it, found by lengths; found is false where there is none.
func least(d api.DFA) (words []string, found []bool) {
	words, found = make([]string, len(d.Final)), make([]bool, len(d.Final))
	found[d.Start] = true
	for range d.Final {
		longer := map[int]string{}
		for state, row := range d.Next {
			for letter, to := range row {
				w := words[state] + string(rune('a'+letter))
				if old, met := longer[to]; found[state] && !found[to] && (!met || word.Compare(w, old) < 0) {
					longer[to] = w
				}
			}
		}
		for state, w := range longer {
			words[state], found[state] = w, true
		}
	}
	return words, found
}

// TestTrim: P7.3, all small automata, and automata of all sizes.
func TestTrim(t *testing.T) {
	for _, d := range slices.Concat(machine.FewDFA(), machine.ScatteredDFA(300)) {
		want, wanted := trimmed(d)
		got, number := dfa.Trim(d)
		if !machine.SameDFA(got, want) || !slices.Equal(number, wanted) || dfa.Validate(got) != api.OK {
			t.Fatalf("%s: %s, %s", show(d), show(got), show(number))
		}
		if again, same := dfa.Trim(got); !machine.SameDFA(again, got) || !slices.IsSorted(same) || same[0] != 0 {
			t.Fatalf("%s, trimmed twice: %s, %s", show(d), show(again), show(same))
		}
		for _, w := range []string{"", "a", "aa", "aaaaa"} {
			if dfa.Accepts(got, w) != dfa.Accepts(d, w) {
				t.Fatalf("%s: %q", show(d), w)
			}
		}
	}
}

// TestTrimNumbers: P7.3, automata whose states are numbered in other ways: the result is the same.
func TestTrimNumbers(t *testing.T) {
	for i, d := range machine.ScatteredDFA(100) {
		want, number := dfa.Trim(d)
		s := tree.Source(i)
		c := machine.Shuffled(&s, d)
		got, other := dfa.Trim(c)
		slices.Sort(number)
		slices.Sort(other)
		if !machine.SameDFA(got, want) || !slices.Equal(other, number) {
			t.Fatalf("%s: %s, want %s", show(c), show(got), show(want))
		}
	}
}

// TestAccess: P7.3, the least word of each state that some word leads to, in the order of the states of Trim.
func TestAccess(t *testing.T) {
	for _, d := range slices.Concat(machine.FewDFA(), machine.ScatteredDFA(100), []api.DFA{machine.Cycle(6, 512, 5), machine.Cycle(1, 512, 0)}) {
		trim, number := dfa.Trim(d)
		words, found := least(d)
		got := dfa.Access(d)
		if len(got) != len(trim.Final) || !slices.IsSortedFunc(got, word.Compare) {
			t.Fatalf("%s: %q", show(d), got)
		}
		for state, new := range number {
			if found[state] != (new >= 0) || found[state] && got[new] != words[state] {
				t.Fatalf("%s, state %d: %q, want %q", show(d), new, got, words[state])
			}
		}
		for state, w := range got {
			if dfa.Run(trim, trim.Start, w) != state {
				t.Fatalf("%s: %q does not lead to %d", show(trim), w, state)
			}
		}
	}
}

// TestAccessShort: P7.3, the states of small automata in the order in which the words of shortlex order meet them.
func TestAccessShort(t *testing.T) {
	for _, d := range slices.Concat(machine.FewDFA(), machine.AllDFA(1, 4)) {
		var words []string
		var states []int
		for _, w := range tree.Words(d.Letters, len(d.Final)-1) {
			if state := machine.State(d, d.Start, w); !slices.Contains(states, state) {
				words, states = append(words, w), append(states, state)
			}
		}
		_, number := dfa.Trim(d)
		for new, state := range states {
			if number[state] != new {
				t.Fatalf("%s: %s, want %s", show(d), show(number), show(states))
			}
		}
		if got := dfa.Access(d); !slices.Equal(got, words) {
			t.Fatalf("%s: %q, want %q", show(d), got, words)
		}
	}
}

// TestTrimByHand: P7.3, states that no word leads to, numbers that are not the given ones, and least words that are not met first by depth.
func TestTrimByHand(t *testing.T) {
	for i, c := range []struct {
		d      api.DFA
		trim   api.DFA
		number []int
		words  []string
	}{
		{machine.Odd(), machine.Odd(), []int{0, 1}, []string{"", "a"}},
		{api.DFA{Letters: 2, Start: 1, Final: []bool{false, true}, Next: [][]int{{1, 0}, {0, 1}}}, api.DFA{Letters: 2, Final: []bool{true, false}, Next: [][]int{{1, 0}, {0, 1}}}, []int{1, 0}, []string{"", "a"}},
		{api.DFA{Letters: 1, Start: 2, Final: []bool{true, true, false}, Next: [][]int{{1}, {2}, {2}}}, machine.Whole(1, false), []int{-1, -1, 0}, []string{""}},
		// State 3 is met before state 2, which is farther away.
		{api.DFA{Letters: 2, Final: []bool{false, false, false, true}, Next: [][]int{{1, 3}, {2, 1}, {3, 2}, {3, 3}}}, api.DFA{Letters: 2, Final: []bool{false, false, true, false}, Next: [][]int{{1, 2}, {3, 1}, {2, 2}, {2, 3}}}, []int{0, 1, 3, 2}, []string{"", "a", "b", "aa"}},
		// Two words of two letters lead to state 1; the greater one does through a state with a lower number.
		{api.DFA{Letters: 2, Start: 3, Final: make([]bool, 4), Next: [][]int{{1, 0}, {1, 1}, {2, 1}, {2, 0}}}, api.DFA{Letters: 2, Final: make([]bool, 4), Next: [][]int{{1, 2}, {1, 3}, {3, 2}, {3, 3}}}, []int{2, 3, 1, 0}, []string{"", "a", "b", "ab"}},
	} {
		got, number := dfa.Trim(c.d)
		if words := dfa.Access(c.d); !machine.SameDFA(got, c.trim) || !slices.Equal(number, c.number) || !slices.Equal(words, c.words) {
			t.Errorf("case %d: %s, %s, %q", i, show(got), show(number), words)
		}
	}
}

// checkSubset compares Subset with its definition.
func checkSubset(t *testing.T, n api.NFA) {
	t.Helper()
	got, sets, why := dfa.Subset(n)
	met, rows := numbering(n.Letters, n.Start, func(set uint64, letter int) uint64 { return nfa.Step(n, set, letter) }, api.MaxDFA)
	if len(met) > api.MaxDFA {
		if why != api.ErrLimit || len(sets) != 0 || !machine.SameDFA(got, api.DFA{}) {
			t.Fatalf("%s: %s, %d sets, %d", show(n), show(got), len(sets), why)
		}
		return
	}
	want := api.DFA{Letters: n.Letters, Next: rows}
	for _, set := range met {
		want.Final = append(want.Final, set&n.Final != 0)
	}
	if why != api.OK || !slices.Equal(sets, met) || !machine.SameDFA(got, want) || dfa.Validate(got) != api.OK {
		t.Fatalf("%s: %s, %s, %d", show(n), show(got), show(sets), why)
	}
}

// TestSubset: P7.4, all small automata, and random ones of all sizes.
func TestSubset(t *testing.T) {
	for _, n := range machine.FewNFA() {
		checkSubset(t, n)
		d, _, _ := dfa.Subset(n)
		for _, w := range tree.Words(n.Letters, 4) {
			if dfa.Accepts(d, w) != nfa.Accepts(n, w) {
				t.Fatalf("%s: %q", show(n), w)
			}
		}
	}
	for _, n := range machine.ScatteredNFA(300) {
		checkSubset(t, n)
	}
}

// atPlace accepts the words over two letters that have the given number of letters behind an a. Its sets are all those with state 0.
func atPlace(behind int) api.NFA {
	return machine.NFA(2, behind+2, 1, 1<<(behind+1), func(from, letter, to int) bool {
		return from == 0 && (to == 0 || to == 1 && letter == 0) || from > 0 && to == from+1
	})
}

// ring goes from some states in a row into cycles of 7, 8 and 9 states, all of which it is in at once. It has row + 504 sets.
func ring(row int) api.NFA {
	return machine.NFA(1, row+24, 1, 1<<(row+23), func(from, letter, to int) bool {
		if from < row {
			return to == from+1 || from == row-1 && (to == row+7 || to == row+15)
		}
		begin := 0
		for _, size := range []int{7, 8, 9} {
			if x, y := from-row-begin, to-row-begin; x >= 0 && x < size && y == (x+1)%size {
				return true
			}
			begin += size
		}
		return false
	})
}

// TestSubsetLimit: P7.4, automata with MaxDFA sets and with one more.
func TestSubsetLimit(t *testing.T) {
	// first gets a start state of its own.
	first := func(n api.NFA) api.NFA {
		n.Start = 1 << n.States
		n.Edges = append(n.Edges, api.Edge{From: n.States, To: 0}, api.Edge{From: n.States, Letter: 1, To: 0})
		n.States++
		return n
	}
	for i, c := range []struct {
		n    api.NFA
		sets int
	}{
		{atPlace(7), 256}, {first(atPlace(7)), 257}, {atPlace(8), 512}, {first(atPlace(8)), 0}, {atPlace(9), 0}, {atPlace(62), 0},
		{ring(1), 505}, {ring(7), 511}, {ring(8), 512}, {ring(9), 0}, {ring(10), 0}, {ring(40), 0},
	} {
		d, sets, why := dfa.Subset(c.n)
		if len(sets) != c.sets || len(d.Final) != c.sets || (why == api.OK) != (c.sets > 0) {
			t.Errorf("case %d: %d sets, %d", i, len(sets), why)
		}
		checkSubset(t, c.n)
	}
}

// TestSubsetByHand: P7.4, sets that are empty or equal, and no states.
func TestSubsetByHand(t *testing.T) {
	for i, c := range []struct {
		n    api.NFA
		sets []uint64
		d    api.DFA
	}{
		{api.NFA{Letters: 1}, []uint64{0}, machine.Whole(1, false)},
		{api.NFA{Letters: 6, States: 64, Final: math.MaxUint64}, []uint64{0}, machine.Whole(6, false)},
		{api.NFA{Letters: 2, States: 64, Start: math.MaxUint64, Final: 1 << 63}, []uint64{math.MaxUint64, 0}, api.DFA{Letters: 2, Final: []bool{true, false}, Next: [][]int{{1, 1}, {1, 1}}}},
		{api.NFA{Letters: 1, States: 2, Start: 3, Final: 2, Edges: machine.Edges([3]int{0, 0, 0}, [3]int{0, 0, 1}, [3]int{1, 0, 0})}, []uint64{3}, machine.Whole(1, true)},
		// (a|b)*a
		{atPlace(0), []uint64{1, 3}, api.DFA{Letters: 2, Final: []bool{false, true}, Next: [][]int{{1, 0}, {1, 0}}}},
		// a leads to {1, 2}, b to {2}, ab and bb to {0}, aa and ba to nothing.
		{api.NFA{Letters: 2, States: 3, Start: 1, Final: 2, Edges: machine.Edges([3]int{0, 0, 1}, [3]int{0, 0, 2}, [3]int{0, 1, 2}, [3]int{1, 1, 0}, [3]int{2, 1, 0})}, []uint64{1, 6, 4, 0},
			api.DFA{Letters: 2, Final: []bool{false, true, false, false}, Next: [][]int{{1, 2}, {3, 0}, {3, 0}, {3, 3}}}},
	} {
		if d, sets, why := dfa.Subset(c.n); why != api.OK || !slices.Equal(sets, c.sets) || !machine.SameDFA(d, c.d) {
			t.Errorf("case %d: %s, %s, %d", i, show(d), show(sets), why)
		}
	}
}

// TestSubsetErrors: P7.4, automata that are not valid: their error comes first.
func TestSubsetErrors(t *testing.T) {
	list := machine.WrongNFAs()
	for _, edit := range []func(n *api.NFA){
		func(n *api.NFA) { n.Final = 1 << 63 },
		func(n *api.NFA) { n.Edges[0].To = 63 },
		func(n *api.NFA) { n.Edges = append(n.Edges, n.Edges[0]) },
	} {
		n := atPlace(20)
		edit(&n)
		list = append(list, machine.WrongNFA{N: n, Why: api.ErrShape})
	}
	big := atPlace(20)
	big.Letters = 7
	list = append(list, machine.WrongNFA{N: big, Why: api.ErrArg})
	for i, c := range list {
		if d, sets, why := dfa.Subset(c.N); why != c.Why || len(sets) != 0 || !machine.SameDFA(d, api.DFA{}) {
			t.Errorf("case %d: %s, %s, %d, want %d", i, show(d), show(sets), why, c.Why)
		}
	}
}

// TestSubsetLanguage: P7.4, the automata of expressions accept the words that match.
func TestSubsetLanguage(t *testing.T) {
	for i := range 300 {
		s := tree.Source(i)
		e := s.Tree(3+i/20, 8, 3, tree.PlainOps())
		for _, make := range []func(api.Expr, int) (api.NFA, api.Errno){nfa.Position, nfa.Partial} {
			n, why := make(e, 3)
			if why != api.OK {
				t.Fatal(why)
			}
			d, _, why := dfa.Subset(n)
			if why != api.OK {
				continue
			}
			for _, w := range tree.Words(3, 4) {
				if dfa.Accepts(d, w) != expr.Match(e, w) {
					t.Fatalf("%s: %q", expr.Format(e), w)
				}
			}
		}
	}
}

// product is P7.5 for valid automata with the same number of letters; it has no states if there are too many.
func product(a, b api.DFA, op int) api.DFA {
	type pair [2]int
	met, rows := numbering(a.Letters, pair{a.Start, b.Start}, func(at pair, letter int) pair { return pair{a.Next[at[0]][letter], b.Next[at[1]][letter]} }, api.MaxDFA)
	if len(met) > api.MaxDFA {
		return api.DFA{}
	}
	d := api.DFA{Letters: a.Letters, Next: rows}
	for _, at := range met {
		d.Final = append(d.Final, combined(op, a.Final[at[0]], b.Final[at[1]]))
	}
	return d
}

// combined is the Boolean operation with a number.
func combined(op int, x, y bool) bool {
	switch {
	case x && y:
		return op/8 == 1
	case x:
		return op/4%2 == 1
	case y:
		return op/2%2 == 1
	}
	return op%2 == 1
}

// TestProduct: P7.5, pairs of small automata with each operation, and pairs of larger ones.
func TestProduct(t *testing.T) {
	check := func(a, b api.DFA, op int) {
		t.Helper()
		want := product(a, b, op)
		got, why := dfa.Product(a, b, op)
		wanted := api.OK
		if len(want.Final) == 0 {
			wanted = api.ErrLimit
		}
		if why != wanted || !machine.SameDFA(got, want) || why == api.OK && dfa.Validate(got) != api.OK {
			t.Fatalf("%s and %s, %d: %s, %d", show(a), show(b), op, show(got), why)
		}
	}
	small := machine.AllDFA(2, 2)
	for i, a := range small {
		for j := range small {
			check(a, small[j], (i+j)%16)
		}
	}
	three := machine.AllDFA(2, 3)
	for i := range three {
		check(three[i], three[(i*31+7)%len(three)], i%16)
	}
	large := 0
	for i := range 400 {
		s := tree.Source(i)
		letters := 1 + s.Below(api.MaxLetters)
		a, b := machine.RandomDFA(&s, letters, 1+s.Below(30), 2), machine.Forward(&s, letters, 1+s.Below(30), 2, 3)
		check(a, b, i%16)
		check(b, a, i%16)
		if c := machine.RandomDFA(&s, letters, 1+s.Below(30), 3); len(product(a, c, 0).Final) > 0 {
			large++
			check(a, c, i%16)
		}
	}
	if large == 0 {
		t.Error("no large products")
	}
}

// TestProductOps: P7.5, every operation: the words that are accepted.
func TestProductOps(t *testing.T) {
	a, b := machine.Odd(), atLeast(2)
	for op := range 16 {
		d, why := dfa.Product(a, b, op)
		if why != api.OK {
			t.Fatal(op, why)
		}
		for _, w := range tree.Words(2, 7) {
			if got, want := dfa.Accepts(d, w), combined(op, strings.Count(w, "a")%2 == 1, strings.Count(w, "b") >= 2); got != want {
				t.Errorf("%d: %q: %t", op, w, got)
			}
		}
	}
	both, _ := dfa.Product(a, b, 8)
	either, _ := dfa.Product(a, b, 14)
	one, _ := dfa.Product(a, b, 6)
	less, _ := dfa.Product(a, b, 4)
	for _, c := range []struct {
		w    string
		want [4]bool
	}{{"", [4]bool{}}, {"a", [4]bool{false, true, true, true}}, {"bb", [4]bool{false, true, true, false}}, {"bab", [4]bool{true, true, false, false}}} {
		if got := [4]bool{dfa.Accepts(both, c.w), dfa.Accepts(either, c.w), dfa.Accepts(one, c.w), dfa.Accepts(less, c.w)}; got != c.want {
			t.Errorf("%q: %s", c.w, show(got))
		}
	}
	if d, why := dfa.Product(a, a, 6); why != api.OK || !machine.SameDFA(d, api.DFA{Letters: 2, Final: []bool{false, false}, Next: [][]int{{1, 0}, {0, 1}}}) {
		t.Error(d, why)
	}
}

// atLeast accepts the words over two letters with at least so many b.
func atLeast(count int) api.DFA {
	final := make([]bool, count+1)
	final[count] = true
	return machine.DFA(2, 0, final, func(state, letter int) int { return min(state+letter, count) })
}

// TestProductLimit: P7.5, MaxDFA pairs and one more, of automata of all sizes.
func TestProductLimit(t *testing.T) {
	long := machine.Cycle(2, 512, 0)
	for i, c := range []struct {
		a, b  api.DFA
		pairs int
	}{
		{machine.Cycle(2, 16, 0), machine.Cycle(2, 32, 1), 512}, {machine.Cycle(2, 19, 0), machine.Cycle(2, 27, 1), 0}, {machine.Cycle(2, 7, 1), machine.Cycle(2, 73, 0), 511}, {machine.Cycle(6, 27, 5), machine.Cycle(6, 19, 0), 0},
		{machine.Cycle(1, 19, 0), machine.Cycle(1, 27, 0), 0}, {machine.Cycle(1, 7, 0), machine.Cycle(1, 73, 0), 511}, {machine.Cycle(1, 510, 0), machine.Cycle(1, 255, 0), 510}, {machine.Cycle(1, 511, 0), machine.Cycle(1, 2, 0), 0},
		{long, long, 512}, {long, machine.Whole(2, true), 512}, {machine.Whole(2, false), long, 512}, {long, machine.Odd(), 512}, {long, atLeast(1), 0}, {atLeast(1), long, 0}, {machine.Cycle(2, 256, 0), atLeast(1), 512}, {machine.Cycle(2, 512, 1), long, 0},
		{machine.Cycle(1, 512, 0), machine.Cycle(1, 511, 0), 0},
	} {
		for _, op := range []int{0, 6, 15} {
			d, why := dfa.Product(c.a, c.b, op)
			if len(d.Final) != c.pairs || (why == api.OK) != (c.pairs > 0) || why != api.OK && (why != api.ErrLimit || !machine.SameDFA(d, api.DFA{})) {
				t.Errorf("case %d: %d pairs, %d", i, len(d.Final), why)
			}
			if !machine.SameDFA(d, product(c.a, c.b, op)) {
				t.Errorf("case %d: another product", i)
			}
		}
	}
}

// TestProductErrors: P7.5, the order of the errors, and operations out of range.
func TestProductErrors(t *testing.T) {
	wrong := machine.WrongDFAs()
	for i, c := range wrong {
		for _, x := range []struct {
			d  api.DFA
			op int
		}{{machine.Odd(), 8}, {machine.Odd(), 16}, {machine.Whole(1, true), -1}, {machine.Cycle(2, 512, 0), 8}} {
			if d, why := dfa.Product(c.D, x.d, x.op); why != c.Why || !machine.SameDFA(d, api.DFA{}) {
				t.Errorf("case %d, first: %d, want %d", i, why, c.Why)
			}
			if d, why := dfa.Product(x.d, c.D, x.op); why != c.Why || !machine.SameDFA(d, api.DFA{}) {
				t.Errorf("case %d, second: %d, want %d", i, why, c.Why)
			}
		}
		other := wrong[(i*7+3)%len(wrong)]
		if _, why := dfa.Product(c.D, other.D, 8); why != c.Why {
			t.Errorf("case %d, both: %d, want %d", i, why, c.Why)
		}
	}
	for _, op := range []int{math.MinInt, -1, 16, 17, 1 << 32, math.MaxInt} {
		for _, b := range []api.DFA{machine.Odd(), atLeast(3), machine.Whole(1, true), machine.Cycle(2, 512, 0), machine.Cycle(2, 512, 1)} {
			for _, a := range []api.DFA{machine.Odd(), machine.Cycle(2, 512, 0)} {
				if d, why := dfa.Product(a, b, op); why != api.ErrArg || !machine.SameDFA(d, api.DFA{}) {
					t.Errorf("%d: %d", op, why)
				}
			}
		}
	}
	for letters := 1; letters <= api.MaxLetters; letters++ {
		for other := 1; other <= api.MaxLetters; other++ {
			d, why := dfa.Product(machine.Cycle(letters, 31, 0), machine.Cycle(other, 32, 0), 8)
			want := api.ErrArg
			if letters == other {
				want = api.ErrLimit
			}
			if why != want || !machine.SameDFA(d, api.DFA{}) {
				t.Errorf("%d and %d letters: %d", letters, other, why)
			}
		}
	}
}
