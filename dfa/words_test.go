package dfa_test

import (
	"math"
	"math/big"
	"slices"
	"strings"
	"testing"

	"semigroup/api"
	"semigroup/dfa"
	"semigroup/machine"
	"semigroup/tree"
	"semigroup/word"
)

// sparse makes an automaton over two letters whose words have lengths that differ by cycle, the least of them being the given one: any row of a, then the last letter, which is any of the two.
func sparse(length, cycle int) api.DFA {
	final := make([]bool, cycle+2)
	final[length%cycle], final[cycle] = true, true // final[cycle] is the end of words whose last letter is b, and from the last state nothing leads away
	return machine.DFA(2, 0, final, func(state, letter int) int {
		switch {
		case state >= cycle:
			return cycle + 1
		case letter == 0:
			return (state + 1) % cycle
		case (state+1)%cycle == length%cycle:
			return cycle
		}
		return cycle + 1
	})
}

// line accepts the words that have exactly so many letters, or at least as many if there is no end.
func line(letters, length int, end bool) api.DFA {
	final := make([]bool, length+2)
	final[length] = true
	final[length+1] = !end
	return machine.DFA(letters, 0, final, func(state, letter int) int { return min(state+1, length+1) })
}

// TestShortest: P7.6, all small automata, automata of all sizes, and the least of several words.
func TestShortest(t *testing.T) {
	for _, d := range slices.Concat(machine.FewDFA(), machine.ScatteredDFA(100)) {
		words, found := least(d)
		want, some := "", false
		for state, w := range words {
			if found[state] && d.Final[state] && (!some || word.Compare(w, want) < 0) {
				want, some = w, true
			}
		}
		if got, ok := dfa.Shortest(d); got != want || ok != some {
			t.Fatalf("%s: %q, %t, want %q, %t", show(d), got, ok, want, some)
		}
	}
	for i, c := range []struct {
		d  api.DFA
		w  string
		ok bool
	}{
		{machine.Odd(), "a", true}, {machine.Cycle(3, 5, 1), "", true}, {machine.Whole(1, true), "", true}, {machine.Whole(6, false), "", false}, {atLeast(3), "bbb", true},
		{line(6, 510, true), strings.Repeat("a", 510), true}, {dfa.Complement(machine.Cycle(4, 512, 3)), "d", true}, {sparse(7, 10), "aaaaaaa", true},
		{api.DFA{Letters: 2, Final: []bool{false, false, true, true}, Next: [][]int{{1, 3}, {2, 1}, {2, 2}, {3, 3}}}, "b", true},
		{api.DFA{Letters: 2, Start: 3, Final: []bool{false, false, true, false}, Next: [][]int{{2, 0}, {1, 2}, {2, 2}, {1, 0}}}, "ab", true},
		{api.DFA{Letters: 2, Final: []bool{false, true}, Next: [][]int{{0, 0}, {1, 1}}}, "", false},
	} {
		if w, ok := dfa.Shortest(c.d); w != c.w || ok != c.ok {
			t.Errorf("case %d: %q, %t", i, w, ok)
		}
	}
}

// TestCount: P7.6, all small automata against the words themselves.
func TestCount(t *testing.T) {
	const longest = 5
	for _, d := range machine.FewDFA() {
		var want [longest + 1]int
		for _, w := range tree.Words(d.Letters, longest) {
			if machine.Accepts(d, w) {
				want[len(w)]++
			}
		}
		for n, count := range want {
			if got := dfa.Count(d, n); got != count {
				t.Fatalf("%s, %d: %d, want %d", show(d), n, got, count)
			}
		}
	}
	for _, c := range []struct{ n, want int }{{0, 0}, {1, 1}, {2, 2}, {3, 4}, {10, 512}} {
		if got := dfa.Count(machine.Odd(), c.n); got != c.want {
			t.Errorf("%d: %d, want %d", c.n, got, c.want)
		}
	}
}

// counted counts words forward from the start state, with exact numbers.
func counted(d api.DFA, n int) *big.Int {
	ways := make([]*big.Int, len(d.Final))
	for state := range ways {
		ways[state] = new(big.Int)
	}
	ways[d.Start].SetInt64(1)
	for range n {
		next := make([]*big.Int, len(ways))
		for state := range next {
			next[state] = new(big.Int)
		}
		for state, row := range d.Next {
			for _, to := range row {
				next[to].Add(next[to], ways[state])
			}
		}
		ways = next
	}
	sum := new(big.Int)
	for state, final := range d.Final {
		if final {
			sum.Add(sum, ways[state])
		}
	}
	return sum
}

// TestCountLarge: P7.6, numbers beyond 2^61 - 1, and automata of all sizes.
func TestCountLarge(t *testing.T) {
	modulus := big.NewInt(1<<61 - 1)
	check := func(d api.DFA, n int) {
		t.Helper()
		want := counted(d, n)
		if got := dfa.Count(d, n); int64(got) != want.Mod(want, modulus).Int64() {
			t.Fatalf("%s, %d: %d, want %d", show(d), n, got, want)
		}
	}
	for letters := 1; letters <= api.MaxLetters; letters++ {
		for _, n := range []int{0, 1, 20, 23, 24, 60, 61, 62, 63, 64, 122, 1000, 9999, 10000} {
			check(machine.Whole(letters, true), n)
			check(machine.Cycle(letters, 3, 0), n)
		}
	}
	for i, d := range machine.ScatteredDFA(60) {
		for _, n := range []int{i, 30 + i, 200} {
			check(d, n)
		}
	}
	s := tree.Source(5)
	check(machine.RandomDFA(&s, 2, 7, 2), 10000)
	check(machine.RandomDFA(&s, 6, 512, 2), 150)
}

// TestCountByHand: P7.6, lengths out of range, and powers that are known.
func TestCountByHand(t *testing.T) {
	all := machine.Whole(2, true)
	for n, want := range map[int]int{
		0: 1, 1: 2, 3: 8, 60: 1 << 60, 61: 1, 62: 2, 122: 1, 10000: 1 << (10000 % 61), 9999: 1 << (9999 % 61),
		-1: 0, 10001: 0, 10004: 0, math.MinInt: 0, math.MaxInt: 0, 1 << 32: 0, -10000: 0,
	} {
		if got := dfa.Count(all, n); got != want {
			t.Errorf("%d: %d, want %d", n, got, want)
		}
		if got := dfa.Count(machine.Whole(2, false), n); got != 0 {
			t.Errorf("no words, %d: %d", n, got)
		}
	}
	// All words of length 61 but two: 2^61 - 2, the greatest number that stays as it is; but one: none.
	for missing, want := range map[int]int{1: 0, 2: 1<<61 - 2} {
		// The first states count a up to 60; a last letter leads from there to state 61, which is not final.
		chain := machine.DFA(2, 0, append(slices.Repeat([]bool{true}, 61), false, true), func(state, letter int) int {
			if state >= 61 || letter == 1 && (state < 60 || missing == 1) {
				return 62
			}
			return state + 1
		})
		if got := dfa.Count(chain, 61); got != want {
			t.Errorf("all but %d: %d, want %d", missing, got, want)
		}
	}
}

// TestWords: P7.6, all small automata against the words themselves.
func TestWords(t *testing.T) {
	const longest = 5
	for i, d := range machine.FewDFA() {
		var all []string
		for _, w := range tree.Words(d.Letters, longest) {
			if machine.Accepts(d, w) {
				all = append(all, w)
			}
		}
		for _, n := range []int{0, 1, 2, i % 7, 20} {
			// A longer word may come behind all of these.
			got := dfa.Words(d, n)
			if want := all[:min(n, len(all))]; len(got) < len(want) || len(got) > n || !slices.Equal(got[:len(want)], want) || len(got) > len(want) && len(got[len(want)]) <= longest {
				t.Fatalf("%s, %d: %q", show(d), n, got)
			}
		}
	}
}

// counts lists the numbers of accepted words of the lengths below n, but no number greater than 1000.
func counts(d api.DFA, n int) []int {
	ways := make([]int, len(d.Final))
	ways[d.Start] = 1
	var list []int
	for range n {
		sum := 0
		next := make([]int, len(ways))
		for state, row := range d.Next {
			if d.Final[state] {
				sum += ways[state]
			}
			for _, to := range row {
				next[to] = min(next[to]+ways[state], 1000)
			}
		}
		list = append(list, min(sum, 1000))
		ways = next
	}
	return list
}

// TestWordsLarge: P7.6, automata of all sizes: words in ascending order, all of which are accepted, and as many as there are of each length.
func TestWordsLarge(t *testing.T) {
	full := 0
	for _, d := range machine.ScatteredDFA(200) {
		list := dfa.Words(d, 200)
		lengths := map[int]int{}
		for i, w := range list {
			lengths[len(w)]++
			if i > 0 && word.Compare(list[i-1], w) >= 0 || !machine.Accepts(d, w) {
				t.Fatalf("%s: word %d is %q", show(d), i, w)
			}
		}
		if len(list) == 200 {
			full++
		}
		for n, count := range counts(d, 600) {
			if last := len(list) == 200 && n >= len(list[199]); !last && lengths[n] != count || last && lengths[n] > count {
				t.Fatalf("%s: %d words of length %d, not %d", show(d), lengths[n], n, count)
			}
		}
		for _, n := range []int{0, 1, 7, 199} {
			if got := dfa.Words(d, n); !slices.Equal(got, list[:min(n, len(list))]) {
				t.Fatalf("%s, %d: %q", show(d), n, got)
			}
		}
		w, ok := dfa.Shortest(d)
		if ok != (len(list) > 0) || ok && list[0] != w {
			t.Fatalf("%s: %q, and Words begins with another one", show(d), w)
		}
	}
	if full < 20 || full > 180 {
		t.Error("automata with 200 words:", full)
	}
}

// TestWordsByHand: P7.6, numbers of words out of range, few words, and the longest ones.
func TestWordsByHand(t *testing.T) {
	a := func(n int) string { return strings.Repeat("a", n) }
	powers := func(step, count int) []string {
		var list []string
		for i := range count {
			list = append(list, a(step*i))
		}
		return list
	}
	rest := func(length, cycle int) api.DFA { // the words over one letter with this length, modulo cycle
		d := machine.Cycle(1, cycle, 0)
		d.Final[0] = false
		d.Final[length%cycle] = true
		return d
	}
	for i, c := range []struct {
		d    api.DFA
		n    int
		want []string
	}{
		{machine.Odd(), 3, []string{"a", "ab", "ba"}}, {machine.Odd(), 8, []string{"a", "ab", "ba", "aaa", "abb", "bab", "bba", "aaab"}}, {machine.Odd(), 0, nil}, {machine.Odd(), 1, []string{"a"}}, {machine.Odd(), -1, nil}, {machine.Odd(), 201, nil},
		{machine.Odd(), math.MinInt, nil}, {machine.Odd(), math.MaxInt, nil}, {machine.Odd(), 1 << 32, nil},
		{machine.Whole(1, false), 200, nil}, {machine.Whole(6, false), 5, nil}, {machine.Whole(6, true), 9, []string{"", "a", "b", "c", "d", "e", "f", "aa", "ab"}}, {machine.Whole(1, true), 200, powers(1, 200)},
		{machine.Cycle(1, 512, 0), 200, powers(512, 5)}, {machine.Cycle(1, 512, 0), 4, powers(512, 4)}, {machine.Cycle(1, 512, 0), 5, powers(512, 5)}, {machine.Cycle(1, 256, 0), 200, powers(256, 9)},
		{rest(2048, 500), 200, []string{a(48), a(548), a(1048), a(1548), a(2048)}}, {rest(2049, 500), 200, []string{a(49), a(549), a(1049), a(1549)}}, {rest(2047, 500), 200, []string{a(47), a(547), a(1047), a(1547), a(2047)}},
		{sparse(2048, 510), 200, []string{a(8), a(7) + "b", a(518), a(517) + "b", a(1028), a(1027) + "b", a(1538), a(1537) + "b", a(2048), a(2047) + "b"}},
		{sparse(2048, 510), 9, []string{a(8), a(7) + "b", a(518), a(517) + "b", a(1028), a(1027) + "b", a(1538), a(1537) + "b", a(2048)}},
		{sparse(2049, 510), 200, []string{a(9), a(8) + "b", a(519), a(518) + "b", a(1029), a(1028) + "b", a(1539), a(1538) + "b"}},
		{line(2, 2, true), 200, []string{"aa", "ab", "ba", "bb"}}, {line(2, 0, true), 3, []string{""}}, {line(1, 510, true), 200, []string{a(510)}},
		{line(3, 1, false), 6, []string{"a", "b", "c", "aa", "ab", "ac"}}, {line(2, 510, false), 2, []string{a(510), a(509) + "b"}},
		{atLeast(2), 7, []string{"bb", "abb", "bab", "bba", "bbb", "aabb", "abab"}},
		{api.DFA{Letters: 2, Start: 1, Final: []bool{true, false}, Next: [][]int{{0, 0}, {1, 1}}}, 200, nil},
	} {
		if got := dfa.Words(c.d, c.n); !slices.Equal(got, c.want) {
			t.Errorf("case %d: %d words, want %d", i, len(got), len(c.want))
		}
	}
	for _, n := range []int{199, 200} {
		if got, all := dfa.Words(machine.Whole(2, true), n), tree.Words(2, 8); !slices.Equal(got, all[:n]) {
			t.Errorf("%d: %d words", n, len(got))
		}
	}
}

// endless reports whether a state between the start state and a final state leads to itself.
func endless(d api.DFA) bool {
	leads := make([][]bool, len(d.Final)) // by words that are not empty
	for state, row := range d.Next {
		leads[state] = make([]bool, len(d.Final))
		for _, to := range row {
			leads[state][to] = true
		}
	}
	for via := range leads {
		for from := range leads {
			for to := range leads {
				leads[from][to] = leads[from][to] || leads[from][via] && leads[via][to]
			}
		}
	}
	for state := range leads {
		if leads[state][state] && (state == d.Start || leads[d.Start][state]) {
			for to, final := range d.Final {
				if final && leads[state][to] {
					return true
				}
			}
		}
	}
	return false
}

// TestInfinite: P7.6, all small automata, and automata of all sizes.
func TestInfinite(t *testing.T) {
	kinds := map[bool]int{}
	for _, d := range slices.Concat(machine.FewDFA(), machine.AllDFA(1, 4), machine.ScatteredDFA(100)) {
		want := endless(d)
		if len(d.Final) > 4 {
			kinds[want]++
		}
		if got := dfa.Infinite(d); got != want {
			t.Fatalf("%s: %t", show(d), got)
		}
	}
	if kinds[true] < 20 || kinds[false] < 20 {
		t.Error("large automata of each kind:", kinds)
	}
}

// TestInfiniteByHand: P7.6, no words, a few, and words whose lengths are far from each other.
func TestInfiniteByHand(t *testing.T) {
	// tail accepts words that go around a cycle of the given size at the end of a row of states, which ends the automaton.
	tail := func(row, size int) api.DFA {
		d := machine.Cycle(1, row+size, 0)
		d.Next[row+size-1][0] = row
		d.Final[0] = false
		d.Final[row+size-1] = true
		return d
	}
	for i, c := range []struct {
		d    api.DFA
		want bool
	}{
		{machine.Odd(), true}, {machine.Whole(1, true), true}, {machine.Whole(1, false), false}, {atLeast(4), true}, {dfa.Complement(atLeast(4)), true}, {line(6, 0, true), false}, {line(1, 0, false), true},
		{line(6, 510, true), false}, {line(6, 510, false), true}, {dfa.Complement(line(6, 510, false)), false}, {dfa.Complement(line(6, 510, true)), true}, {sparse(3, 400), true},
		{machine.Cycle(1, 512, 0), true}, {machine.Cycle(6, 512, 5), true}, {tail(0, 512), true}, {tail(1, 511), true}, {tail(256, 256), true}, {tail(511, 1), true}, {tail(500, 12), true},
		// a cycle that no final state is behind, one that no word leads to, and both
		{api.DFA{Letters: 2, Final: []bool{false, true, false}, Next: [][]int{{1, 2}, {2, 2}, {2, 2}}}, false},
		{api.DFA{Letters: 1, Start: 1, Final: []bool{true, true, false}, Next: [][]int{{0}, {2}, {2}}}, false},
		{api.DFA{Letters: 2, Start: 1, Final: []bool{true, true, false}, Next: [][]int{{0, 1}, {2, 2}, {2, 2}}}, false},
		{api.DFA{Letters: 2, Start: 1, Final: []bool{true, true, false}, Next: [][]int{{0, 1}, {2, 0}, {2, 2}}}, true},
	} {
		if got := dfa.Infinite(c.d); got != c.want {
			t.Errorf("case %d: %t", i, got)
		}
	}
}
