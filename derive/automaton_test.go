package derive_test

import (
	"math"
	"slices"
	"strings"
	"testing"

	"semigroup/api"
	"semigroup/derive"
	"semigroup/expr"
	"semigroup/machine"
	"semigroup/tree"
)

// cycles is a union of (a^7)* and (a^73)* after n letters a. It has 511 + n derivatives by words of that letter.
func cycles(n int) api.Expr {
	return tree.Parse(strings.Repeat("a", n) + "((aaaaaaa)*|(" + strings.Repeat("a", 73) + ")*)")
}

// start begins a computation that must be right.
func start(t *testing.T, e api.Expr, letters int) api.Derivation {
	t.Helper()
	d, why := derive.Start(e, letters)
	if why != api.OK {
		t.Fatalf("Start(%s, %d): %d", expr.Format(e), letters, why)
	}
	return d
}

// step continues a computation that must be right.
func step(t *testing.T, d api.Derivation, budget int) api.Derivation {
	t.Helper()
	next, why := derive.Step(d, budget)
	if why != api.OK {
		t.Fatalf("Step with budget %d after %d of %s: %d", budget, d.Done, texts(d.Exprs), why)
	}
	return next
}

// TestStart: P5.3, the first state, and the errors of Validate in their order.
func TestStart(t *testing.T) {
	for _, e := range slices.Concat(tree.Small(4), tree.Scattered(200), tree.Invalid()) {
		for letters := -1; letters <= api.MaxLetters+1; letters++ {
			want, wanted := api.Derivation{}, expr.Validate(e, letters)
			if wanted == api.OK {
				want = api.Derivation{Letters: letters, Exprs: []api.Expr{tree.NormalForm(e)}}
			}
			if got, why := derive.Start(e, letters); why != wanted || !sameState(got, want) {
				t.Fatalf("%v over %d letters: %v, %d", e, letters, got, why)
			}
		}
	}
	for _, letters := range []int{math.MinInt, math.MaxInt, 1<<32 + 1} {
		if got, why := derive.Start(tree.Letter(9), letters); why != api.ErrArg || !sameState(got, api.Derivation{}) {
			t.Errorf("%d letters: %v, %d", letters, got, why)
		}
	}
}

// TestSteps: P5.3, steps with budget 1 and the states that are saved in between, against the definition.
func TestSteps(t *testing.T) {
	for i, e := range plain() {
		letters := 2 + i%2
		want, end := states(e, letters)
		if end != api.OK {
			t.Fatalf("%s: %d", expr.Format(e), end)
		}
		d := start(t, e, letters)
		for i := range want {
			if !sameState(d, want[i]) || derive.Validate(d) != api.OK || derive.Finished(d) != (i == len(want)-1) {
				t.Fatalf("%s, state %d: %v, want %v", expr.Format(e), i, d, want[i])
			}
			d = step(t, d, 1)
		}
		if !sameState(d, want[len(want)-1]) {
			t.Fatalf("%s, after the end: %v", expr.Format(e), d)
		}
	}
}

// TestStepsByHand: P5.3, the order of the expressions, and derivatives that are equal only after sorting and flattening.
func TestStepsByHand(t *testing.T) {
	for _, c := range []struct {
		s       string
		letters int
		exprs   []string
		next    [][]int
	}{
		{"(ab)*", 2, []string{"(ab)*", "b(ab)*", "0"}, [][]int{{1, 2}, {2, 0}, {2, 2}}},
		{"1(ab)*", 3, []string{"(ab)*", "b(ab)*", "0"}, [][]int{{1, 2, 2}, {2, 0, 2}, {2, 2, 2}}},
		{"0", 1, []string{"0"}, [][]int{{0}}},
		{"!0", 6, []string{"!0"}, [][]int{{0, 0, 0, 0, 0, 0}}},
		{"1", 1, []string{"1", "0"}, [][]int{{1}, {1}}},
		{"b", 2, []string{"b", "0", "1"}, [][]int{{1, 2}, {1, 1}, {1, 1}}},
		{"(a|b)*a", 2, []string{"(a|b)*a", "1|(a|b)*a"}, [][]int{{1, 0}, {1, 0}}},
		{"a*a*", 1, []string{"a*a*", "a*a*|a*"}, [][]int{{1}, {1}}},
		{"ad|a(b|c)|bb|b(d|c)", 4, []string{"ad|a(b|c)|bb|b(c|d)", "b|c|d", "0", "1"}, [][]int{{1, 1, 2, 2}, {2, 3, 3, 3}, {2, 2, 2, 2}, {2, 2, 2, 2}}},
		{"ac|(a|b)b|bc", 3, []string{"ac|bc|(a|b)b", "b|c", "0", "1"}, [][]int{{1, 1, 2}, {2, 3, 3}, {2, 2, 2}, {2, 2, 2}}},
		{"a(b(cd))|b((bc)d)", 4, []string{"abcd|bbcd", "bcd", "0", "cd", "d", "1"}, [][]int{{1, 1, 2, 2}, {2, 3, 2, 2}, {2, 2, 2, 2}, {2, 2, 4, 2}, {2, 2, 2, 5}, {2, 2, 2, 2}}},
		{"!(ab)", 2, []string{"!(ab)", "!b", "!0", "!1"}, [][]int{{1, 2}, {2, 3}, {2, 2}, {2, 2}}},
		{"(1|a)!b", 2, []string{"(1|a)!b", "!0", "!1"}, [][]int{{1, 2}, {1, 1}, {1, 1}}},
	} {
		d := step(t, start(t, tree.Parse(c.s), c.letters), 1<<40)
		if d.Letters != c.letters || d.Done != len(c.exprs) || !slices.Equal(texts(d.Exprs), c.exprs) || !slices.EqualFunc(d.Next, c.next, slices.Equal[[]int]) {
			t.Errorf("%s: %s, %v, done %d", c.s, texts(d.Exprs), d.Next, d.Done)
		}
	}
}

// TestBudgets: P5.5, steps with any budgets against steps with budget 1: none, some, all and more than all.
func TestBudgets(t *testing.T) {
	s := tree.Source(5)
	for i, e := range plain() {
		list, _ := states(e, 2)
		last := len(list) - 1
		for range 12 {
			from := s.Below(len(list))
			budget := []int{0, 1, last - from, last - from + 1, s.Below(last + 2), math.MaxInt}[s.Below(6)]
			to := last
			if budget < last-from {
				to = from + budget
			}
			if got := step(t, list[from], budget); !sameState(got, list[to]) {
				t.Fatalf("%d, %s: state %d, budget %d: %v, want %v", i, expr.Format(e), from, budget, got, list[to])
			}
		}
		d := start(t, e, 2)
		for !derive.Finished(d) {
			d = step(t, d, s.Below(4))
		}
		if !sameState(d, list[last]) {
			t.Fatalf("%s: %v, want %v", expr.Format(e), d, list[last])
		}
	}
}

// TestGreatest: P5.3 and P5.4, computations of MaxDFA expressions, and of one more.
func TestGreatest(t *testing.T) {
	e := cycles(1)
	d := start(t, e, 1)
	for _, budget := range []int{0, 1, 100, 410} {
		d = step(t, d, budget)
	}
	if d.Done != 511 || len(d.Exprs) != 512 || derive.Finished(d) || derive.Validate(d) != api.OK {
		t.Error(d.Done, len(d.Exprs))
	}
	d = step(t, d, 1)
	if d.Done != 512 || len(d.Exprs) != 512 || !derive.Finished(d) || d.Next[511][0] != 1 {
		t.Error(d.Done, len(d.Exprs))
	}
	if a, why := derive.Build(e, 1); why != api.OK || !machine.SameDFA(a, automaton(d)) {
		t.Error(a, why)
	}
	e = cycles(2)
	d = start(t, e, 1)
	for _, budget := range []int{512, 513, math.MaxInt} {
		if x, why := derive.Step(d, budget); why != api.ErrLimit || !sameState(x, api.Derivation{}) {
			t.Error(budget, x, why)
		}
	}
	d = step(t, step(t, d, 511), 0)
	if d.Done != 511 || len(d.Exprs) != 512 || derive.Finished(d) || derive.Validate(d) != api.OK {
		t.Error(d.Done, len(d.Exprs))
	}
	if x, why := derive.Step(d, 1); why != api.ErrLimit || !sameState(x, api.Derivation{}) {
		t.Error(x, why)
	}
	if x, why := derive.Step(d, -1); why != api.ErrArg || !sameState(x, api.Derivation{}) {
		t.Error(x, why)
	}
	if a, why := derive.Automaton(d); why != api.ErrBudget || !machine.SameDFA(a, api.DFA{}) {
		t.Error(a, why)
	}
	if a, why := derive.Build(e, 1); why != api.ErrLimit || !machine.SameDFA(a, api.DFA{}) {
		t.Error(a, why)
	}
	d.Exprs = append(slices.Clip(d.Exprs), d.Exprs[1])
	d.Next = append(slices.Clip(d.Next), []int{512})
	d.Done++
	if why := derive.Validate(d); why != api.ErrProof {
		t.Error("513 expressions:", why)
	}
}

// TestGreatestDerivative: P5.3, derivatives that are too large, at once and later.
func TestGreatestDerivative(t *testing.T) {
	b, star := tree.Letter(1), tree.Node(api.OpStar, tree.Row(api.OpConcat, 200))
	for i, c := range []struct {
		e     api.Expr
		steps int // without the one that is not possible
	}{{star, 0}, {tree.Node(api.OpConcat, b, star), 2}, {tree.Node(api.OpConcat, b, b, star), 3}} {
		list, why := states(c.e, 2)
		if len(list) != c.steps+1 || why != api.ErrLimit {
			t.Fatal(i, len(list), why)
		}
		d := start(t, c.e, 2)
		for _, want := range list {
			if !sameState(d, want) || derive.Validate(d) != api.OK {
				t.Error(i, d, want)
			}
			if next, why := derive.Step(d, 1); d.Done == c.steps {
				if why != api.ErrLimit || !sameState(next, api.Derivation{}) {
					t.Error(i, next, why)
				}
			} else {
				d = next
			}
		}
		if next, why := derive.Step(list[0], c.steps+1); why != api.ErrLimit || !sameState(next, api.Derivation{}) {
			t.Error(i, next, why)
		}
		if a, why := derive.Build(c.e, 2); why != api.ErrLimit || !machine.SameDFA(a, api.DFA{}) {
			t.Error(i, a, why)
		}
	}
}

// rightState is the definition of a state of the computation.
func rightState(d api.Derivation) bool {
	if len(d.Exprs) == 0 || expr.Validate(d.Exprs[0], d.Letters) != api.OK {
		return false
	}
	list, _ := states(d.Exprs[0], d.Letters)
	return slices.ContainsFunc(list, func(c api.Derivation) bool { return sameState(c, d) })
}

// copyState copies a state, without what lies behind its lists.
func copyState(d api.Derivation) api.Derivation {
	var exprs []api.Expr
	for _, e := range d.Exprs {
		exprs = append(exprs, tree.Clone(e))
	}
	var next [][]int
	for _, row := range d.Next {
		next = append(next, slices.Clone(row))
	}
	return api.Derivation{Letters: d.Letters, Exprs: exprs, Next: next, Done: d.Done}
}

// changed lists states that differ from d in one field.
func changed(d api.Derivation) []api.Derivation {
	var list []api.Derivation
	change := func(edit func(c *api.Derivation)) {
		c := copyState(d)
		edit(&c)
		list = append(list, c)
	}
	for _, letters := range []int{math.MinInt, -1, 0, d.Letters - 1, d.Letters + 1, api.MaxLetters, api.MaxLetters + 1, math.MaxInt} {
		change(func(c *api.Derivation) { c.Letters = letters })
	}
	for _, done := range []int{math.MinInt, -1, 0, d.Done - 1, d.Done + 1, len(d.Exprs), math.MaxInt} {
		change(func(c *api.Derivation) { c.Done = done })
	}
	others := []api.Expr{{}, {Op: 9}, tree.Node(api.OpEmpty), tree.Node(api.OpUnit), tree.Letter(0), tree.Letter(1), tree.Letter(-1), tree.Letter(5), tree.Letter(api.MaxLetters), tree.Node(api.OpNot), tree.Node(api.OpNot, tree.Node(api.OpEmpty))}
	for i, e := range d.Exprs {
		longer := tree.Node(api.OpConcat, tree.Node(api.OpUnit), e)
		doubled := tree.Node(api.OpUnion, e, e)
		letter := tree.Clone(e)
		letter.Letter++
		more := tree.Clone(e)
		more.Kids = append(more.Kids, tree.Letter(0))
		for _, x := range append(others, longer, doubled, letter, more, d.Exprs[(i+1)%len(d.Exprs)]) {
			change(func(c *api.Derivation) { c.Exprs[i] = x })
		}
		change(func(c *api.Derivation) { c.Exprs = slices.Delete(c.Exprs, i, i+1) })
		change(func(c *api.Derivation) { c.Exprs = slices.Insert(c.Exprs, i, e) })
		change(func(c *api.Derivation) { c.Exprs[0], c.Exprs[i] = c.Exprs[i], c.Exprs[0] })
	}
	for _, e := range others {
		change(func(c *api.Derivation) { c.Exprs = append(c.Exprs, e) })
	}
	change(func(c *api.Derivation) { c.Exprs = nil })
	for i, row := range d.Next {
		for j := range row {
			for _, x := range []int{math.MinInt, -1, row[j] - 1, row[j] + 1, len(d.Exprs), math.MaxInt} {
				change(func(c *api.Derivation) { c.Next[i][j] = x })
			}
		}
		change(func(c *api.Derivation) { c.Next[i] = nil })
		change(func(c *api.Derivation) { c.Next[i] = row[1:] })
		change(func(c *api.Derivation) { c.Next[i] = append(c.Next[i], row[0]) })
		change(func(c *api.Derivation) { c.Next = slices.Delete(c.Next, i, i+1) })
		change(func(c *api.Derivation) { c.Next = slices.Insert(c.Next, i, row) })
	}
	change(func(c *api.Derivation) { c.Next = append(c.Next, make([]int, c.Letters)) })
	change(func(c *api.Derivation) { c.Next = append(c.Next, nil) })
	change(func(c *api.Derivation) { c.Next = nil })
	change(func(c *api.Derivation) { c.Next, c.Done = append(c.Next, make([]int, c.Letters)), c.Done+1 })
	if d.Done > 0 {
		change(func(c *api.Derivation) { c.Next, c.Done = c.Next[:d.Done-1], d.Done-1 })
	}
	return list
}

// TestValidate: P5.3 and P5.4, saved states that were changed in any field, with any budget, and the order of the errors.
func TestValidate(t *testing.T) {
	outcomes := map[bool]int{}
	for i, e := range plain() {
		if i%83 != 0 {
			continue
		}
		list, _ := states(e, 2)
		for _, d := range []api.Derivation{list[0], list[len(list)/2], list[len(list)-1]} {
			for _, c := range changed(d) {
				want := api.ErrProof
				if rightState(c) {
					want = api.OK
				}
				outcomes[want == api.OK]++
				if why := derive.Validate(c); why != want {
					t.Fatalf("%v from %v: %d", c, d, why)
				}
				refused(t, c, want)
			}
		}
	}
	if outcomes[true] == 0 || outcomes[false] == 0 {
		t.Error("outcomes:", outcomes)
	}
}

// refused checks what is returned for a state for which Validate returns why.
func refused(t *testing.T, d api.Derivation, why api.Errno) {
	t.Helper()
	end := api.ErrBudget
	if d.Done == len(d.Exprs) {
		end = api.OK
	}
	budget := api.ErrArg
	if why != api.OK {
		end, budget = why, why
	}
	if derive.Finished(d) != (end == api.OK) {
		t.Errorf("Finished: %v", d)
	}
	if a, got := derive.Automaton(d); got != end || end != api.OK && !machine.SameDFA(a, api.DFA{}) {
		t.Errorf("Automaton of %v: %v, %d", d, a, got)
	}
	for _, n := range []int{math.MinInt, -1} {
		if x, got := derive.Step(d, n); got != budget || !sameState(x, api.Derivation{}) {
			t.Errorf("Step of %v, budget %d: %v, %d", d, n, x, got)
		}
	}
	for _, n := range []int{0, 1, math.MaxInt} {
		x, got := derive.Step(d, n)
		if got != why || why != api.OK && !sameState(x, api.Derivation{}) || why == api.OK && n == 0 && !sameState(x, d) {
			t.Errorf("Step of %v, budget %d: %v, %d", d, n, x, got)
		}
	}
}

// TestValidateFirst: P5.3, first expressions that are not normal, not valid or not over the letters.
func TestValidateFirst(t *testing.T) {
	a := tree.Letter(0)
	for i, c := range []struct {
		d    api.Derivation
		want api.Errno
	}{
		{api.Derivation{}, api.ErrProof},
		{api.Derivation{Letters: 1}, api.ErrProof},
		{api.Derivation{Letters: 1, Exprs: []api.Expr{a}}, api.OK},
		{api.Derivation{Letters: 1, Exprs: []api.Expr{a}, Next: [][]int{}}, api.OK},
		{api.Derivation{Letters: 1, Exprs: []api.Expr{tree.Letter(1)}}, api.ErrProof},
		{api.Derivation{Letters: 6, Exprs: []api.Expr{tree.Letter(5)}}, api.OK},
		{api.Derivation{Letters: 7, Exprs: []api.Expr{tree.Letter(6)}}, api.ErrProof},
		{api.Derivation{Letters: 7, Exprs: []api.Expr{a}}, api.ErrProof},
		{api.Derivation{Letters: 0, Exprs: []api.Expr{tree.Node(api.OpUnit)}}, api.ErrProof},
		{api.Derivation{Letters: 1, Exprs: []api.Expr{tree.Row(api.OpConcat, api.MaxNodes-1)}}, api.OK},
		{api.Derivation{Letters: 1, Exprs: []api.Expr{tree.Row(api.OpConcat, api.MaxNodes)}}, api.ErrProof},
		{api.Derivation{Letters: 1, Exprs: []api.Expr{tree.Row(api.OpUnion, 2)}}, api.ErrProof},
		{api.Derivation{Letters: 1, Exprs: []api.Expr{tree.Chain(api.OpNot, 1, a)}}, api.OK},
		{api.Derivation{Letters: 1, Exprs: []api.Expr{tree.Chain(api.OpNot, 2, a)}}, api.ErrProof},
		{api.Derivation{Letters: 1, Exprs: []api.Expr{tree.Chain(api.OpNot, 1<<12-1, a)}}, api.ErrProof},
		{api.Derivation{Letters: 1, Exprs: []api.Expr{a, tree.Chain(api.OpNot, 1<<12-1, a)}, Next: [][]int{{1}}, Done: 1}, api.ErrProof},
		{api.Derivation{Letters: 1, Exprs: make([]api.Expr, 1<<20)}, api.ErrProof},
		{api.Derivation{Letters: 1, Exprs: []api.Expr{a}, Next: make([][]int, 1<<20), Done: 1 << 20}, api.ErrProof},
		{api.Derivation{Letters: 1, Exprs: []api.Expr{a, tree.Node(api.OpUnit)}, Next: [][]int{{1}}, Done: 1}, api.OK},
		{api.Derivation{Letters: 1, Exprs: []api.Expr{a, tree.Node(api.OpUnit), tree.Node(api.OpEmpty)}, Next: [][]int{{1}, {2}, {2}}, Done: 3}, api.OK},
	} {
		if why := derive.Validate(c.d); why != c.want {
			t.Errorf("case %d: %d, want %d", i, why, c.want)
		}
		refused(t, c.d, c.want)
	}
}

// TestAutomaton: P5.4 and P5.5, the fields, and the words over the letters that are accepted.
func TestAutomaton(t *testing.T) {
	short := tree.Words(2, 4)
	for _, e := range plain() {
		list, _ := states(e, 2)
		last := list[len(list)-1]
		for _, d := range list {
			want, wanted := api.DFA{}, api.ErrBudget
			if d.Done == len(d.Exprs) {
				want, wanted = automaton(last), api.OK
			}
			if a, why := derive.Automaton(d); why != wanted || !machine.SameDFA(a, want) {
				t.Fatalf("%s, %d of %d: %v, %d, want %v, %d", expr.Format(e), d.Done, len(d.Exprs), a, why, want, wanted)
			}
		}
		a, why := derive.Build(e, 2)
		if why != api.OK || !machine.SameDFA(a, automaton(last)) {
			t.Fatalf("%s: %v, %d", expr.Format(e), a, why)
		}
		for _, w := range short {
			if machine.Accepts(a, w) != tree.Belongs(e, w) {
				t.Fatalf("%s: %q", expr.Format(e), w)
			}
		}
	}
}

// TestBuildLarge: P5.4 and P5.5, large expressions over all letters: the errors, and the words that are accepted.
func TestBuildLarge(t *testing.T) {
	outcomes := map[api.Errno]int{}
	s := tree.Source(9)
	for i := range 150 {
		e := s.Tree(20+i, 12, api.MaxLetters, tree.AllOps())
		list, wanted := states(e, api.MaxLetters)
		a, why := derive.Build(e, api.MaxLetters)
		outcomes[why]++
		if why != wanted {
			t.Fatalf("%s: %d, want %d", expr.Format(e), why, wanted)
		}
		if why != api.OK {
			continue
		}
		if !machine.SameDFA(a, automaton(list[len(list)-1])) {
			t.Fatalf("%s: %v", expr.Format(e), a)
		}
		for n := range 30 {
			if w := s.Long(n, api.MaxLetters); machine.Accepts(a, w) != expr.Match(e, w) {
				t.Fatalf("%s: %q", expr.Format(e), w)
			}
		}
	}
	if outcomes[api.OK] < 50 {
		t.Error("outcomes:", outcomes)
	}
}

// TestBuildErrors: P5.4, the errors of Start before those of Step.
func TestBuildErrors(t *testing.T) {
	for _, e := range slices.Concat(tree.Invalid(), tree.Small(2)) {
		for _, letters := range []int{math.MinInt, 0, 1, 2, api.MaxLetters, api.MaxLetters + 1, math.MaxInt} {
			wanted := expr.Validate(e, letters)
			if a, why := derive.Build(e, letters); why != wanted || (why == api.OK) == machine.SameDFA(a, api.DFA{}) {
				t.Errorf("%v over %d letters: %v, %d", e, letters, a, why)
			}
		}
	}
	many := tree.Parse("(a|b)*a" + strings.Repeat("(a|b)", 9))
	for letters, want := range map[int]api.Errno{1: api.ErrShape, 2: api.ErrLimit, 7: api.ErrArg} {
		if a, why := derive.Build(many, letters); why != want || !machine.SameDFA(a, api.DFA{}) {
			t.Errorf("%d letters: %v, %d", letters, a, why)
		}
	}
	if a, why := derive.Build(tree.Parse("(a|b)*a"+strings.Repeat("(a|b)", 8)), 2); why != api.OK || len(a.Final) != 512 {
		t.Error(len(a.Final), why)
	}
}

// spareState gives each list of a state some capacity behind its end, with what is no part of a state.
func spareState(d api.Derivation) api.Derivation {
	wrong := api.Expr{Op: 77}
	exprs := make([]api.Expr, 0, len(d.Exprs)+2)
	for _, e := range d.Exprs {
		exprs = append(exprs, tree.Spare(e))
	}
	next := make([][]int, 0, len(d.Next)+2)
	for _, row := range d.Next {
		next = append(next, append(slices.Clone(row), -7, -8)[:len(row)])
	}
	d.Exprs = append(exprs, wrong, wrong)[:len(d.Exprs)]
	d.Next = append(next, []int{77}, []int{78})[:len(d.Next)]
	return d
}

// whole is a state with what lies behind its lists.
func whole(d api.Derivation) api.Derivation {
	d.Exprs = d.Exprs[:cap(d.Exprs)]
	d.Next = slices.Clone(d.Next[:cap(d.Next)])
	for i, row := range d.Next {
		d.Next[i] = row[:cap(row)]
	}
	return d
}

// scribble writes over a state.
func scribble(d api.Derivation) {
	for _, e := range d.Exprs {
		tree.Scribble(e)
	}
	for _, row := range d.Next {
		clear(row)
	}
	clear(d.Exprs)
	clear(d.Next)
}

// TestStateArguments: R3 and R4, saved states that other memory lies behind, and results that share none with the arguments.
func TestStateArguments(t *testing.T) {
	for i, e := range plain() {
		if i%9 != 0 {
			continue
		}
		list, _ := states(e, 2)
		for _, saved := range list {
			d := spareState(saved)
			before := copyState(whole(d))
			for range 2 {
				x := step(t, d, 1)
				if !sameState(x, step(t, saved, 1)) || derive.Validate(d) != api.OK || derive.Finished(d) != derive.Finished(saved) {
					t.Fatal("not the same results:", saved)
				}
				a, why := derive.Automaton(d)
				if b, also := derive.Automaton(saved); why != also || !machine.SameDFA(a, b) {
					t.Fatal("not the same automaton:", saved)
				}
				scribble(x)
				for _, row := range a.Next {
					clear(row)
				}
			}
			if now := whole(d); !slices.EqualFunc(now.Exprs, before.Exprs, tree.Untouched) || !slices.EqualFunc(now.Next, before.Next, slices.Equal[[]int]) {
				t.Fatal("an argument was modified:", saved)
			}
		}
	}
}
