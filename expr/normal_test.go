package expr_test

import (
	"slices"
	"testing"

	"semigroup/api"
	"semigroup/expr"
)

// TestNormal: P4.7, each step, and what no step changes.
func TestNormal(t *testing.T) {
	for s, want := range map[string]string{
		"0": "0", "1": "1", "f": "f", "!0": "!0", "!1": "!1", "!a": "!a",

		"!!a": "a", "!!!a": "!a", "!!!!a": "a", "!!0": "0", "!!!0": "!0", "!!(a|a)": "a", "!(!a|!a)": "a",

		"0*": "1", "1*": "1", "a**": "a*", "a***": "a*", "(!0)*": "!0", "(!1)*": "(!1)*", "(!a)*": "(!a)*", "(0|0)*": "1", "(0*)*": "1", "(0|1)*": "1", "(a*|0)*": "a*", "(1|a)*": "(1|a)*", "(!!a)*": "a*", "!(0*)": "!1",

		"(ab)c": "abc", "a(bc)": "abc", "(ab)(ca)": "abca", "((ab)c)a": "abca", "a(1(bc))": "abc", "a0": "0", "0a": "0", "a(b0)c": "0", "a(0|0)": "0", "(!0)0": "0", "1a1": "a", "1ab": "ab", "ab1": "ab", "11": "1", "1(11)": "1", "0*a": "a", "ba": "ba", "aa": "aa", "(!0)(!0)": "!0!0", "a!0": "a!0", "1!0": "!0", "a*a*": "a*a*", "!!(ab)c": "abc",

		"(a|b)|c": "a|b|c", "a|(b|c)": "a|b|c", "((a|b)|c)|d": "a|b|c|d", "(c|a)|(b|a)": "a|b|c", "a|!0": "!0", "!0|a|0": "!0", "a|(b|!0)": "!0", "a|!!!0": "!0", "a|0": "a", "0|0": "0", "0|0|0": "0", "a|0|b": "a|b", "(0|0)|a": "a", "b|a": "a|b", "b|a|b": "a|b", "a|a": "a", "a|a*": "a|a*", "1|a": "1|a", "a|1": "1|a", "a*|1": "1|a*", "c|!a|b*|a&b|ab|1|a": "1|a|c|ab|a&b|b*|!a", "(a&b|c)|a": "a|c|a&b", "!!(a|b)|c": "a|b|c", "b&a|a&b": "a&b", "a|(1(b|c))": "a|b|c", "bc|ba|b": "b|ba|bc", "abc|ab": "ab|abc", "a|!a": "a|!a", "!1|1": "1|!1",

		"(a&b)&c": "a&b&c", "a&(b&c)": "a&b&c", "((a&b)&c)&d": "a&b&c&d", "(c&a)&(b&a)": "a&b&c", "a&0": "0", "0&!0": "0", "a&(b&0)": "0", "a&(0|0)": "0", "a&!0": "a", "!0&a&!0": "a", "!0&!0": "!0", "!0&!0&!0": "!0", "a&!!!0": "a", "b&a": "a&b", "b&a&b": "a&b", "a&a": "a", "1&a": "1&a", "a&1": "1&a", "a&!a": "a&!a", "!(!a&!a)": "a", "!!(b&a)&c": "a&b&c", "(a|b)&(b|a)": "a|b", "!a&b*&(a|b)&ab&1&c": "1&c&(a|b)&ab&b*&!a",

		"1(b|a|b)1": "a|b", "!!(0*)": "1", "((0|1)(a|a))*": "a*", "!((b|a)&(a|b))": "!(a|b)", "(a0|b)(1|0)c*": "bc*",
	} {
		e := parse(t, s)
		if got := expr.Normal(e); !same(got, parse(t, want)) {
			t.Errorf("%s: %s, want %s", s, expr.Format(got), want)
		}
	}
	for _, e := range invalid() {
		if got := expr.Normal(e); !same(got, api.Expr{}) {
			t.Errorf("%v: %v", e, got)
		}
	}
}

// TestNormalLarge: P4.7, expressions of the greatest size and depth.
func TestNormalLarge(t *testing.T) {
	a := letter(0)
	for i, c := range []struct {
		e, want api.Expr
	}{
		{row(api.OpUnion, api.MaxNodes-1), a},
		{row(api.OpAnd, api.MaxNodes-1), a},
		{row(api.OpConcat, api.MaxNodes-1), row(api.OpConcat, api.MaxNodes-1)},
		{node(api.OpConcat, row(api.OpConcat, 198), row(api.OpConcat, 199)), row(api.OpConcat, 397)},
		{chain(api.OpStar, api.MaxDepth-1, a), node(api.OpStar, a)},
		{chain(api.OpNot, api.MaxDepth-1, a), node(api.OpNot, a)},
		{chain(api.OpNot, api.MaxDepth-2, a), a},
	} {
		if got := expr.Normal(c.e); !same(got, c.want) {
			t.Errorf("case %d: %s", i, expr.Format(got))
		}
	}
}

// TestNormalLanguage: P4.8, all small expressions and many large ones.
func TestNormalLanguage(t *testing.T) {
	short := words(4)
	var large []api.Expr
	for i := range 400 {
		s := source(i)
		large = append(large, s.tree(6+i/10, 12, 2, allOps))
	}
	for _, e := range slices.Concat(small(5), large) {
		n := expr.Normal(e)
		if expr.Validate(n, 2) != api.OK || expr.Size(n) > expr.Size(e) {
			t.Fatalf("%s: %v", expr.Format(e), n)
		}
		for _, w := range short {
			if expr.Match(n, w) != expr.Match(e, w) {
				t.Fatalf("%s and its normal form %s differ in %q", expr.Format(e), expr.Format(n), w)
			}
		}
	}
	for _, e := range scattered(300) {
		if n := expr.Normal(e); expr.Validate(n, api.MaxLetters) != api.OK || expr.Size(n) > expr.Size(e) {
			t.Fatalf("%s: %v", expr.Format(e), n)
		}
	}
}
