package nfa_test

import (
	"math"
	"math/bits"
	"slices"
	"strings"
	"testing"

	"semigroup/api"
	"semigroup/expr"
	"semigroup/machine"
	"semigroup/nfa"
	"semigroup/tree"
)

// contains reports whether e has a node with one of some Ops.
func contains(e api.Expr, ops ...int) bool {
	return slices.Contains(ops, e.Op) || slices.ContainsFunc(e.Kids, func(kid api.Expr) bool { return contains(kid, ops...) })
}

// plain lists expressions over two letters without complements and intersections: all of at most 5 nodes, and some larger ones.
func plain() []api.Expr {
	list := slices.DeleteFunc(tree.Small(5), func(e api.Expr) bool { return contains(e, api.OpAnd, api.OpNot) })
	for i := range 600 {
		s := tree.Source(i)
		list = append(list, s.Tree(6+i/20, 3+i%9, 2, tree.PlainOps()))
	}
	return list
}

// larger lists expressions over all letters without complements and intersections, of all sizes.
func larger() []api.Expr {
	var list []api.Expr
	for i := range 200 {
		s := tree.Source(i)
		list = append(list, s.Tree(2+2*i-i/100, api.MaxDepth, 1+i%api.MaxLetters, tree.PlainOps()))
	}
	return list
}

// letterNodes lists the letters of the letter nodes of e, from the left.
func letterNodes(e api.Expr) []int {
	if e.Op == api.OpLetter {
		return []int{e.Letter}
	}
	var list []int
	for _, kid := range e.Kids {
		list = append(list, letterNodes(kid)...)
	}
	return list
}

// offsets returns for each kid of e the number of letter nodes before it, if there are so many before e.
func offsets(e api.Expr, before int) []int {
	var list []int
	for _, kid := range e.Kids {
		list = append(list, before)
		before += len(letterNodes(kid))
	}
	return list
}

func skippable(kids []api.Expr) bool {
	return !slices.ContainsFunc(kids, func(kid api.Expr) bool { return !tree.Belongs(kid, "") })
}

// first is the definition of First, and of Last if last is true, for an expression with so many letter nodes before it.
func first(e api.Expr, before int, last bool) uint64 {
	if e.Op == api.OpLetter {
		return 1 << (before + 1)
	}
	var set uint64
	for i, at := range offsets(e, before) {
		beside := e.Kids[:i]
		if last {
			beside = e.Kids[i+1:]
		}
		if e.Op != api.OpConcat || skippable(beside) {
			set |= first(e.Kids[i], at, last)
		}
	}
	return set
}

// follow is the definition of the pairs of letter nodes of which the second one follows the first one.
func follow(e api.Expr, before int, pairs map[[2]int]bool) {
	add := func(last, first uint64) {
		for p := range 64 {
			for q := range 64 {
				if in(p, last) && in(q, first) {
					pairs[[2]int{p, q}] = true
				}
			}
		}
	}
	at := offsets(e, before)
	for i, kid := range e.Kids {
		follow(kid, at[i], pairs)
		if e.Op == api.OpStar {
			add(first(kid, at[i], true), first(kid, at[i], false))
		}
		for j := range i {
			if e.Op == api.OpConcat && skippable(e.Kids[j+1:i]) {
				add(first(e.Kids[j], at[j], true), first(kid, at[i], false))
			}
		}
	}
}

// position is the definition of the position automaton of an expression with less than MaxNFA letter nodes.
func position(e api.Expr, letters int) api.NFA {
	nodes := letterNodes(e)
	pairs := map[[2]int]bool{}
	follow(e, 0, pairs)
	for q := range 64 {
		if in(q, first(e, 0, false)) {
			pairs[[2]int{0, q}] = true
		}
	}
	final := first(e, 0, true)
	if tree.Belongs(e, "") {
		final |= 1
	}
	return machine.NFA(letters, 1+len(nodes), 1, final, func(from, letter, to int) bool {
		return pairs[[2]int{from, to}] && nodes[to-1] == letter
	})
}

// partials is the definition of the partial derivatives of e by a letter, in ascending order.
func partials(e api.Expr, letter int) []api.Expr {
	var list []api.Expr
	product := func(list []api.Expr, rest api.Expr) []api.Expr {
		var products []api.Expr
		for _, p := range list {
			products = append(products, tree.NormalForm(tree.Node(api.OpConcat, p, rest)))
		}
		return products
	}
	switch e.Op {
	case api.OpLetter:
		if e.Letter == letter {
			list = append(list, tree.Node(api.OpUnit))
		}
	case api.OpUnion:
		for _, kid := range e.Kids {
			list = append(list, partials(kid, letter)...)
		}
	case api.OpStar:
		list = product(partials(e.Kids[0], letter), e)
	case api.OpConcat:
		rest := tree.Node(api.OpConcat, e.Kids[1:]...)
		if len(e.Kids) == 2 {
			rest = e.Kids[1]
		}
		list = product(partials(e.Kids[0], letter), rest)
		if tree.Belongs(e.Kids[0], "") {
			list = append(list, partials(rest, letter)...)
		}
	}
	list = slices.DeleteFunc(list, func(p api.Expr) bool { return p.Op == api.OpEmpty })
	slices.SortFunc(list, expr.Compare)
	return slices.CompactFunc(list, tree.Same)
}

// partial is the definition of the automaton of partial derivatives of a valid expression, and of its states.
func partial(e api.Expr, letters int) (api.NFA, []api.Expr, api.Errno) {
	states := []api.Expr{tree.NormalForm(e)}
	n := api.NFA{Letters: letters, Start: 1}
	for n.States < len(states) {
		for letter := range letters {
			var next []int
			for _, p := range partials(states[n.States], letter) {
				at := slices.IndexFunc(states, func(q api.Expr) bool { return tree.Same(p, q) })
				if at < 0 {
					at = len(states)
					states = append(states, p)
				}
				next = append(next, at)
			}
			if len(states) > api.MaxNFA {
				return api.NFA{}, nil, api.ErrLimit
			}
			slices.Sort(next)
			for _, to := range next {
				n.Edges = append(n.Edges, api.Edge{From: n.States, Letter: letter, To: to})
			}
		}
		if tree.Belongs(states[n.States], "") {
			n.Final |= 1 << n.States
		}
		n.States++
	}
	return n, states, api.OK
}

// TestPosition: P6.5, against the definition, over as many letters as there are and more.
func TestPosition(t *testing.T) {
	for i, e := range slices.Concat(plain(), larger()) {
		letters := 2 + i%5
		if expr.Validate(e, letters) != api.OK {
			letters = api.MaxLetters
		}
		want, wanted := api.NFA{}, api.ErrLimit
		if len(letterNodes(e)) < api.MaxNFA {
			want, wanted = position(e, letters), api.OK
		}
		if got, why := nfa.Position(e, letters); why != wanted || !machine.SameNFA(got, want) || why == api.OK && nfa.Validate(got) != api.OK {
			t.Fatalf("%s over %d letters: %v, %d, want %v, %d", expr.Format(e), letters, got, why, want, wanted)
		}
	}
}

// TestPartial: P6.6, against the definition.
func TestPartial(t *testing.T) {
	for i, e := range slices.Concat(plain(), larger()) {
		letters := 2 + i%5
		if expr.Validate(e, letters) != api.OK {
			letters = api.MaxLetters
		}
		want, _, wanted := partial(e, letters)
		if got, why := nfa.Partial(e, letters); why != wanted || !machine.SameNFA(got, want) || why == api.OK && nfa.Validate(got) != api.OK {
			t.Fatalf("%s over %d letters: %v, %d, want %v, %d", expr.Format(e), letters, got, why, want, wanted)
		}
	}
}

// made makes a set of states of its elements.
func made(states ...int) uint64 {
	var set uint64
	for _, state := range states {
		set |= 1 << state
	}
	return set
}

// TestPositionByHand: P6.5, the example, nodes without words, and concatenations with nullable kids at either end and in the middle.
func TestPositionByHand(t *testing.T) {
	for _, c := range []struct {
		s       string
		letters int
		final   uint64
		edges   []api.Edge
	}{
		{"(ab)*", 2, made(0, 2), edges([3]int{0, 0, 1}, [3]int{1, 1, 2}, [3]int{2, 0, 1})},
		{"0", 1, 0, nil}, {"1", 6, 1, nil}, {"0*", 1, 1, nil}, {"1*", 1, 1, nil}, {"f", 6, made(1), edges([3]int{0, 5, 1})}, {"b*", 3, made(0, 1), edges([3]int{0, 1, 1}, [3]int{1, 1, 1})},
		{"a0", 1, 0, edges([3]int{0, 0, 1})}, {"0a", 1, made(1), nil}, {"a0b", 2, made(2), edges([3]int{0, 0, 1})}, {"a1b", 2, made(2), edges([3]int{0, 0, 1}, [3]int{1, 1, 2})}, {"0|a", 1, made(1), edges([3]int{0, 0, 1})},
		{"a|1|a", 1, made(0, 1, 2), edges([3]int{0, 0, 1}, [3]int{0, 0, 2})}, {"ba|ab", 2, made(2, 4), edges([3]int{0, 0, 3}, [3]int{0, 1, 1}, [3]int{1, 0, 2}, [3]int{3, 1, 4})},
		{"a*bc", 3, made(3), edges([3]int{0, 0, 1}, [3]int{0, 1, 2}, [3]int{1, 0, 1}, [3]int{1, 1, 2}, [3]int{2, 2, 3})},
		{"ab*c", 3, made(3), edges([3]int{0, 0, 1}, [3]int{1, 1, 2}, [3]int{1, 2, 3}, [3]int{2, 1, 2}, [3]int{2, 2, 3})},
		{"ab(c|1)", 3, made(2, 3), edges([3]int{0, 0, 1}, [3]int{1, 1, 2}, [3]int{2, 2, 3})},
		{"(1|a)(1|b)(1|c)", 3, made(0, 1, 2, 3), edges([3]int{0, 0, 1}, [3]int{0, 1, 2}, [3]int{0, 2, 3}, [3]int{1, 1, 2}, [3]int{1, 2, 3}, [3]int{2, 2, 3})},
		{"a(1|b)1(1|c)d", 4, made(4), edges([3]int{0, 0, 1}, [3]int{1, 1, 2}, [3]int{1, 2, 3}, [3]int{1, 3, 4}, [3]int{2, 2, 3}, [3]int{2, 3, 4}, [3]int{3, 3, 4})},
		{"((1|b)a)*", 2, made(0, 2), edges([3]int{0, 0, 2}, [3]int{0, 1, 1}, [3]int{1, 0, 2}, [3]int{2, 0, 2}, [3]int{2, 1, 1})},
	} {
		want := api.NFA{Letters: c.letters, States: 1 + len(letterNodes(tree.Parse(c.s))), Start: 1, Final: c.final, Edges: c.edges}
		if got, why := nfa.Position(tree.Parse(c.s), c.letters); why != api.OK || !machine.SameNFA(got, want) {
			t.Errorf("%s: %v, %d", c.s, got, why)
		}
	}
}

// TestPartialByHand: P6.6, the example, the order in which new states are appended, and partial derivatives that are equal only after normalisation.
func TestPartialByHand(t *testing.T) {
	for _, c := range []struct {
		s      string
		states []string
		final  uint64
		edges  []api.Edge
	}{
		{"(ab)*", []string{"(ab)*", "b(ab)*"}, made(0), edges([3]int{0, 0, 1}, [3]int{1, 1, 0})},
		{"0", []string{"0"}, 0, nil}, {"1", []string{"1"}, 1, nil}, {"a0", []string{"0"}, 0, nil}, {"0*", []string{"1"}, 1, nil}, {"b", []string{"b", "1"}, made(1), edges([3]int{0, 1, 1})},
		// In the order of Compare the unit comes first, then letters, unions and concatenations, then stars.
		{"a(b|c)|aa|a(c*)|ab|a|aab", []string{"a|aa|aab|ab|a(b|c)|ac*", "1", "a", "b", "b|c", "ab", "c*"}, made(1, 6),
			edges([3]int{0, 0, 1}, [3]int{0, 0, 2}, [3]int{0, 0, 3}, [3]int{0, 0, 4}, [3]int{0, 0, 5}, [3]int{0, 0, 6}, [3]int{2, 0, 1}, [3]int{3, 1, 1}, [3]int{4, 1, 1}, [3]int{4, 2, 1}, [3]int{5, 0, 3}, [3]int{6, 2, 6})},
		// New states of the first letter come before those of the second one, and the order is not that of the kids.
		{"bba|aca|abb", []string{"abb|aca|bba", "bb", "ca", "ba", "b", "a", "1"}, made(6),
			edges([3]int{0, 0, 1}, [3]int{0, 0, 2}, [3]int{0, 1, 3}, [3]int{1, 1, 4}, [3]int{2, 2, 5}, [3]int{3, 1, 5}, [3]int{4, 1, 6}, [3]int{5, 0, 6})},
		// Not normal: a(bc) and (ab)c, b1 and b, c|b and b|c.
		{"a(a(bc))|b((ab)c)", []string{"aabc|babc", "abc", "bc", "c", "1"}, made(4), edges([3]int{0, 0, 1}, [3]int{0, 1, 1}, [3]int{1, 0, 2}, [3]int{2, 1, 3}, [3]int{3, 2, 4})},
		{"ab1|bb|c(1b)", []string{"ab|bb|cb", "b", "1"}, made(2), edges([3]int{0, 0, 1}, [3]int{0, 1, 1}, [3]int{0, 2, 1}, [3]int{1, 1, 2})},
		{"a(c|b)|b(b|c|b)", []string{"a(b|c)|b(b|c)", "b|c", "1"}, made(2), edges([3]int{0, 0, 1}, [3]int{0, 1, 1}, [3]int{1, 1, 2}, [3]int{1, 2, 2})},
		{"a*a*", []string{"a*a*", "a*"}, made(0, 1), edges([3]int{0, 0, 0}, [3]int{0, 0, 1}, [3]int{1, 0, 1})},
		{"(a**)*", []string{"a*"}, made(0), edges([3]int{0, 0, 0})}, {"(a**|1)*", []string{"(1|a*)*", "a*(1|a*)*"}, made(0, 1), edges([3]int{0, 0, 1}, [3]int{1, 0, 1})},
		{"((ab)*a)*b", []string{"((ab)*a)*b", "b(ab)*a((ab)*a)*b", "1", "(ab)*a((ab)*a)*b"}, made(2), edges([3]int{0, 0, 0}, [3]int{0, 0, 1}, [3]int{0, 1, 2}, [3]int{1, 1, 3}, [3]int{3, 0, 0}, [3]int{3, 0, 1})},
		{"(1|a)(b|1)a", []string{"(1|a)(1|b)a", "1", "(1|b)a", "a"}, made(1), edges([3]int{0, 0, 1}, [3]int{0, 0, 2}, [3]int{0, 1, 3}, [3]int{2, 0, 1}, [3]int{2, 1, 3}, [3]int{3, 0, 1})},
	} {
		e := tree.Parse(c.s)
		_, states, _ := partial(e, 3)
		var texts []string
		for _, p := range states {
			texts = append(texts, expr.Format(p))
		}
		want := api.NFA{Letters: 3, States: len(c.states), Start: 1, Final: c.final, Edges: c.edges}
		if got, why := nfa.Partial(e, 3); why != api.OK || !machine.SameNFA(got, want) || !slices.Equal(texts, c.states) {
			t.Errorf("%s: %v, %d, states %q", c.s, got, why, texts)
		}
	}
}

// TestErrors: P6.5 and P6.6, invalid expressions, numbers of letters out of range, complements and intersections, and the order of the errors.
func TestErrors(t *testing.T) {
	many := strings.Repeat("a", 64)
	wrong := slices.Concat(tree.Invalid(), tree.Scattered(50), tree.Small(3))
	for _, s := range []string{"!a", "a&b", "(a|!b)*", "b(a&a)", "1&0", "!!a", "!0", "f", "!f", many, "!" + many, many + "&a", many + "f", "(" + many + ")*"} {
		wrong = append(wrong, tree.Parse(s))
	}
	seen := map[api.Errno]int{}
	for _, e := range wrong {
		for _, letters := range []int{math.MinInt, -1, 0, 1, 2, 5, 6, 7, 1<<32 + 1, math.MaxInt} {
			want := expr.Validate(e, letters)
			if want == api.OK && contains(e, api.OpAnd, api.OpNot) {
				want = api.ErrShape
			}
			if want == api.OK && len(letterNodes(e)) > 63 {
				want = api.ErrLimit
			}
			seen[want]++
			for i, make := range []func(api.Expr, int) (api.NFA, api.Errno){nfa.Position, nfa.Partial} {
				got, why := make(e, letters)
				if i == 1 && want == api.ErrLimit && expr.Validate(e, letters) == api.OK {
					_, _, want = partial(e, letters)
				}
				if why != want || want != api.OK && !machine.SameNFA(got, api.NFA{}) {
					t.Fatalf("%d, %v over %d letters: %v, %d, want %d", i, e, letters, got, why, want)
				}
			}
		}
	}
	if seen[api.OK] < 10 || seen[api.ErrArg] < 10 || seen[api.ErrShape] < 10 || seen[api.ErrLimit] < 5 {
		t.Error(seen)
	}
}

// TestMaxStates: P6.5 and P6.6, expressions with as many letter nodes or states as there may be, and with one more.
func TestMaxStates(t *testing.T) {
	power := func(n int) string { return strings.Repeat("a", n) }
	stars := func(n int) string { return "(" + strings.Repeat("a*", n) + ")*" }
	for i, c := range []struct {
		s                 string
		position, partial int // the numbers of states
	}{
		{power(62), 63, 63}, {power(63), 64, 64}, {power(64), 0, 0}, {power(399), 0, 0},
		{"b" + power(62), 64, 64}, {"b" + power(63), 0, 0}, {stars(62), 63, 63}, {stars(63), 64, 64}, {stars(64), 0, 0}, {stars(190), 0, 0},
		// Equal parts, or parts that can never be reached, make letter nodes but no states.
		{strings.Repeat("a|", 62) + "a", 64, 2}, {strings.Repeat("a|", 63) + "a", 0, 2}, {"(" + power(63) + ")*", 64, 63}, {"(" + power(64) + ")*", 0, 64}, {"(" + power(65) + ")*", 0, 0},
		{power(63) + "0", 64, 1}, {power(64) + "0", 0, 1}, {"0" + power(99), 0, 1}, {"(" + strings.Repeat("(a|b)(a|b)", 20) + ")*", 0, 40}, {strings.Repeat("(a|b)", 63), 0, 64}, {strings.Repeat("(a|b)", 64), 0, 0},
		{power(31) + "|" + strings.Repeat("b", 32), 64, 64 - 1}, {power(32) + "|" + strings.Repeat("b", 32), 0, 64}, {power(32) + "|" + strings.Repeat("b", 33), 0, 0},
	} {
		e := tree.Parse(c.s)
		for k, want := range []int{c.position, c.partial} {
			got, why := []func(api.Expr, int) (api.NFA, api.Errno){nfa.Position, nfa.Partial}[k](e, 2)
			if want == 0 && (why != api.ErrLimit || !machine.SameNFA(got, api.NFA{})) || want > 0 && (why != api.OK || got.States != want || nfa.Validate(got) != api.OK) {
				t.Errorf("case %d, %d: %d states, %d, want %d", i, k, got.States, why, want)
			}
		}
	}
}

// TestLargeStates: P6.6, states with more than MaxNodes nodes, nullable ones among them, whose partial derivatives are states as well.
func TestLargeStates(t *testing.T) {
	any := func(n int) string { return strings.Repeat("(a|b|c|d|e|f)*", n) }
	for i, c := range []struct {
		s             string
		states, final int // the numbers of them; 0 for too many
	}{
		{"(a" + any(30) + ")*", 31, 31}, {"(a" + any(29) + "b)*", 30, 1}, {"(a" + any(15) + "b" + any(15) + ")*", 31, 16}, {"((a" + any(13) + ")*b" + any(13) + ")*", 27, 14},
		{"(" + strings.Repeat("a", 60) + any(30) + ")*", 0, 0},
	} {
		want, states, wanted := partial(tree.Parse(c.s), 6)
		got, why := nfa.Partial(tree.Parse(c.s), 6)
		if why != wanted || (why == api.OK) != (c.states > 0) || !machine.SameNFA(got, want) || got.States != c.states || bits.OnesCount64(got.Final) != c.final {
			t.Errorf("case %d: %v, %d, want %v, %d", i, got, why, want, wanted)
		}
		if why == api.OK && !slices.ContainsFunc(states, func(p api.Expr) bool { return expr.Validate(p, 6) == api.ErrLimit }) {
			t.Errorf("case %d: all states are small", i)
		}
	}
}

// TestLanguage: P6.7, the words of an expression against those of both automata.
func TestLanguage(t *testing.T) {
	words := append(tree.Words(2, 4), "c", "aca")
	for _, e := range plain() {
		p, why := nfa.Position(e, 3)
		d, wrong := nfa.Partial(e, 3)
		if why != api.OK || wrong != api.OK {
			t.Fatalf("%s: %d, %d", expr.Format(e), why, wrong)
		}
		for _, w := range words {
			if want := tree.Belongs(e, w); nfa.Accepts(p, w) != want || nfa.Accepts(d, w) != want {
				t.Fatalf("%s, %q: %t, %t", expr.Format(e), w, nfa.Accepts(p, w), nfa.Accepts(d, w))
			}
		}
	}
}

// TestLongWords: P6.7, larger expressions and longer words, made by walks in the automata and changed in one place.
func TestLongWords(t *testing.T) {
	yes, no := 0, 0
	for i, e := range larger() {
		s := tree.Source(i)
		p, why := nfa.Position(e, 6)
		d, wrong := nfa.Partial(e, 6)
		if why != api.OK || wrong != api.OK {
			continue
		}
		for k := range 6 {
			w := walk(&s, nfa.Trim(d), 1+10*k)
			if k%2 == 1 && w != "" {
				at := s.Below(len(w))
				w = w[:at] + s.Long(1, 6) + w[at+1:]
			}
			want := expr.Match(e, w)
			if nfa.Accepts(p, w) != want || nfa.Accepts(d, w) != want {
				t.Fatalf("%s, %q: %t, %t", expr.Format(e), w, nfa.Accepts(p, w), nfa.Accepts(d, w))
			}
			if want {
				yes++
			} else {
				no++
			}
		}
	}
	if yes < 100 || no < 100 {
		t.Error(yes, "words match,", no, "do not")
	}
}

// walk makes the word of a walk of about so many edges that ends in a final state, if there is one.
func walk(s *tree.Source, n api.NFA, length int) string {
	var w strings.Builder
	state := 0
	for range length * 2 {
		if in(state, n.Final) && w.Len() >= length {
			break
		}
		var from []api.Edge
		for _, e := range n.Edges {
			if e.From == state {
				from = append(from, e)
			}
		}
		if len(from) == 0 {
			break
		}
		e := from[s.Below(len(from))]
		w.WriteByte(byte('a' + e.Letter))
		state = e.To
	}
	return w.String()
}

// TestRunsByHand: P6.2 and P6.5, the example.
func TestRunsByHand(t *testing.T) {
	for _, c := range []struct {
		s, w string
		want int
	}{{"a*a*", "aa", 3}, {"a*a*", "", 1}, {"a*a*", "a", 2}, {"a*a*a*", "aaaa", 15}, {"(ab)*", "abab", 1}, {"(ab)*", "aba", 0}, {"(a|a)*", strings.Repeat("a", 31), 1 << 31}, {"(a|a)*", strings.Repeat("a", 32), 1 << 31}, {"(a|a)*b", strings.Repeat("a", 30) + "b", 1 << 30}} {
		n, why := nfa.Position(tree.Parse(c.s), 2)
		if got := nfa.Runs(n, c.w); why != api.OK || got != c.want {
			t.Errorf("%s, %q: %d", c.s, c.w, got)
		}
	}
}

// TestExpressionArguments: R3 and R4, expressions that other memory lies behind, and results that share none with the arguments.
func TestExpressionArguments(t *testing.T) {
	for _, e := range slices.Concat(plain()[:500], larger(), tree.Invalid()) {
		e = tree.Spare(e)
		before := tree.Clone(e)
		p, why := nfa.Position(e, 6)
		d, wrong := nfa.Partial(e, 6)
		q, c := machine.CloneNFA(p), machine.CloneNFA(d)
		machine.ScribbleNFA(p)
		machine.ScribbleNFA(d)
		p, again := nfa.Position(e, 6)
		if again != why || !machine.SameNFA(p, q) {
			t.Fatalf("%v: %v, %d, and %v, %d", before, q, why, p, again)
		}
		d, again = nfa.Partial(e, 6)
		if again != wrong || !machine.SameNFA(d, c) {
			t.Fatalf("%v: %v, %d, and %v, %d", before, c, wrong, d, again)
		}
		if !tree.Untouched(e, before) {
			t.Fatal("an argument was modified:", before)
		}
	}
}
