package expr_test

import (
	"slices"
	"testing"

	"semigroup/api"
	"semigroup/expr"
	"semigroup/tree"
)

// TestNormal: P4.7, each step, and what no step changes.
func TestNormal(t *testing.T) {
	for s, want := range map[string]string{
		"0": "0", "1": "1", "f": "f", "!0": "!0", "!1": "!1", "!a": "!a",

		"!!a": "a", "!!!a": "!a", "!!!!a": "a", "!!0": "0", "!!!0": "!0", "!!(a|a)": "a", "!(!a|!a)": "a",

		"0*": "1", "1*": "1", "a**": "a*", "a***": "a*", "(!0)*": "!0", "(!1)*": "(!1)*", "(!a)*": "(!a)*", "(0|0)*": "1", "(0*)*": "1", "(0|1)*": "1", "(a*|0)*": "a*", "(1|a)*": "(1|a)*", "(!!a)*": "a*", "!(0*)": "!1",

		"(ab)c": "abc", "a(bc)": "abc", "(ab)(ca)": "abca", "((ab)c)a": "abca", "a(1(bc))": "abc", "a0": "0", "0a": "0", "a(b0)c": "0", "a(0|0)": "0", "(!0)0": "0", "1a1": "a", "1ab": "ab", "ab1": "ab", "11": "1", "1(11)": "1", "0*a": "a", "ba": "ba", "aa": "aa", "(!0)(!0)": "!0!0", "a!0": "a!0", "1!0": "!0", "a*a*": "a*a*", "!!(ab)c": "abc",

		"(a|b)|c": "a|b|c", "a|(b|c)": "a|b|c", "((a|b)|c)|d": "a|b|c|d", "(c|a)|(b|a)": "a|b|c", "a|!0": "!0", "!0|a|0": "!0", "a|(b|!0)": "!0", "a|!!!0": "!0", "a|0": "a", "0|0": "0", "0|0|0": "0", "a|0|b": "a|b", "(0|0)|a": "a", "b|a": "a|b", "b|a|b": "a|b", "a|a": "a", "a|a*": "a|a*", "1|a": "1|a", "a|1": "1|a", "a*|1": "1|a*", "c|!a|b*|a&b|ab|1|a": "1|a|c|ab|a&b|b*|!a", "(a&b|c)|a": "a|c|a&b", "!!(a|b)|c": "a|b|c", "b&a|a&b": "a&b", "a|(1(b|c))": "a|b|c", "bc|ba|b": "b|ba|bc", "abc|ab": "ab|abc", "a|!a": "a|!a", "!1|1": "1|!1",

		"(a&b)&c": "a&b&c", "a&(b&c)": "a&b&c", "((a&b)&c)&d": "a&b&c&d", "(c&a)&(b&a)": "a&b&c", "a&0": "0", "0&!0": "0", "a&(b&0)": "0", "a&(0|0)": "0", "a&!0": "a", "!0&a&!0": "a", "!0&!0": "!0", "!0&!0&!0": "!0", "a&!!!0": "a", "b&a": "a&b", "b&a&b": "a&b", "a&a": "a", "1&a": "1&a", "a&1": "1&a", "a&!a": "a&!a", "!(!a&!a)": "a", "!!(b&a)&c": "a&b&c", "(a|b)&(b|a)": "a|b", "!a&b*&(a|b)&ab&1&c": "1&c&(a|b)&ab&b*&!a",

		"1(b|a|b)1": "a|b", "!!(0*)": "1", "((0|1)(a|a))*": "a*", "!((b|a)&(a|b))": "!(a|b)", "(a0|b)(1|0)c*": "bc*",
	} {
		e := tree.Parse(s)
		if got := expr.Normal(e); !tree.Same(got, tree.Parse(want)) {
			t.Errorf("%s: %s, want %s", s, expr.Format(got), want)
		}
	}
	for _, e := range tree.Invalid() {
		if got := expr.Normal(e); !tree.Same(got, api.Expr{}) {
			t.Errorf("%v: %v", e, got)
		}
	}
}

// TestNormalLarge: P4.7, expressions of the greatest size and depth.
func TestNormalLarge(t *testing.T) {
	a := tree.Letter(0)
	for i, c := range []struct {
		e, want api.Expr
	}{
		{tree.Row(api.OpUnion, api.MaxNodes-1), a},
		{tree.Row(api.OpAnd, api.MaxNodes-1), a},
		{tree.Row(api.OpConcat, api.MaxNodes-1), tree.Row(api.OpConcat, api.MaxNodes-1)},
		{tree.Node(api.OpConcat, tree.Row(api.OpConcat, 198), tree.Row(api.OpConcat, 199)), tree.Row(api.OpConcat, 397)},
		{tree.Chain(api.OpStar, api.MaxDepth-1, a), tree.Node(api.OpStar, a)},
		{tree.Chain(api.OpNot, api.MaxDepth-1, a), tree.Node(api.OpNot, a)},
		{tree.Chain(api.OpNot, api.MaxDepth-2, a), a},
	} {
		if got := expr.Normal(c.e); !tree.Same(got, c.want) {
			t.Errorf("case %d: %s", i, expr.Format(got))
		}
	}
}

// TestNormalLanguage: P4.8, all small expressions and many large ones.
func TestNormalLanguage(t *testing.T) {
	short := tree.Words(2, 4)
	var large []api.Expr
	for i := range 400 {
		s := tree.Source(i)
		large = append(large, s.Tree(6+i/10, 12, 2, tree.AllOps()))
	}
	for _, e := range slices.Concat(tree.Small(5), large) {
		n := expr.Normal(e)
		if expr.Validate(n, 2) != api.OK || expr.Size(n) > expr.Size(e) {
			t.Fatalf("%s: %v", expr.Format(e), n)
		}
		for _, w := range short {
			if expr.Match(n, w) != expr.Match(e, w) {
				t.Fatalf("%s and its normal form %s differ in %q", expr.Format(e), expr.Format(n), w)
			}
		}
	}
	for _, e := range tree.Scattered(300) {
		if n := expr.Normal(e); expr.Validate(n, api.MaxLetters) != api.OK || expr.Size(n) > expr.Size(e) {
			t.Fatalf("%s: %v", expr.Format(e), n)
		}
	}
}

// TestNormalSteps: P4.7, all small expressions and many large ones, against the steps one after the other.
func TestNormalSteps(t *testing.T) {
	for _, e := range slices.Concat(tree.Small(5), tree.Scattered(1000)) {
		if got, want := expr.Normal(e), tree.NormalForm(e); !tree.Same(got, want) {
			t.Fatalf("%s: %s, want %s", expr.Format(e), expr.Format(got), expr.Format(want))
		}
	}
}

// TestCombine: P4.7, the steps for one operation on kids in normal form.
func TestCombine(t *testing.T) {
	var kids []api.Expr
	for _, e := range tree.Small(4) {
		if tree.Same(e, tree.NormalForm(e)) {
			kids = append(kids, e)
		}
	}
	s := tree.Source(1)
	for range 30000 {
		var list []api.Expr
		for range s.Below(6) {
			list = append(list, kids[s.Below(len(kids))])
		}
		op := tree.AllOps()[s.Below(len(tree.AllOps()))]
		var want api.Expr
		if len(list) == 1 || op != api.OpStar && op != api.OpNot {
			want = tree.NormalForm(tree.Node(op, list...))
		}
		var before []api.Expr
		for i, e := range list {
			list[i] = tree.Spare(e)
			before = append(before, tree.Clone(list[i]))
		}
		got := expr.Combine(op, list...)
		if !tree.Same(got, want) || !tree.Same(got, expr.Combine(op, list...)) {
			t.Fatalf("Op %d of %v: %v, want %v", op, list, got, want)
		}
		if !slices.EqualFunc(list, before, tree.Untouched) {
			t.Fatalf("Op %d: an argument was modified: %v", op, before)
		}
	}
}

// TestCombineBeyond: P4.7, operations without kids or with one, results beyond the limits, and what is no operation.
func TestCombineBeyond(t *testing.T) {
	a := tree.Letter(0)
	half := tree.Row(api.OpConcat, api.MaxNodes-1)
	deep := tree.Chain(api.OpNot, 1, tree.Node(api.OpStar, a))
	for range api.MaxDepth {
		deep = tree.Node(api.OpNot, tree.Node(api.OpStar, deep))
	}
	for i, c := range []struct {
		got, want api.Expr
	}{
		{expr.Combine(api.OpUnion), tree.Node(api.OpEmpty)},
		{expr.Combine(api.OpConcat), tree.Node(api.OpUnit)},
		{expr.Combine(api.OpAnd), tree.Node(api.OpNot, tree.Node(api.OpEmpty))},
		{expr.Combine(api.OpUnion, a), a},
		{expr.Combine(api.OpConcat, half, half, half), tree.Row(api.OpConcat, 3*api.MaxNodes-3)},
		{expr.Combine(api.OpUnion, half, tree.Node(api.OpUnion, a, half), half), tree.Node(api.OpUnion, a, half)},
		{expr.Combine(api.OpStar, deep), tree.Node(api.OpStar, deep)},
		{expr.Combine(api.OpNot, deep), deep.Kids[0]},
		{expr.Combine(api.OpNot, half), tree.Node(api.OpNot, half)},
		{expr.Combine(api.OpNot), api.Expr{}},
		{expr.Combine(api.OpNot, a, a), api.Expr{}},
		{expr.Combine(api.OpStar), api.Expr{}},
		{expr.Combine(api.OpStar, a, a), api.Expr{}},
		{expr.Combine(api.OpEmpty), api.Expr{}},
		{expr.Combine(api.OpUnit, a), api.Expr{}},
		{expr.Combine(api.OpLetter, a, a), api.Expr{}},
		{expr.Combine(0, a), api.Expr{}},
		{expr.Combine(-1), api.Expr{}},
		{expr.Combine(9, a, a), api.Expr{}},
	} {
		if !tree.Same(c.got, c.want) {
			t.Errorf("case %d: %v, want %v", i, c.got, c.want)
		}
	}
	for _, e := range tree.Invalid() {
		for op := -1; op <= 9; op++ {
			expr.Combine(op, e)
			expr.Combine(op, e, a, e)
		}
	}
}
