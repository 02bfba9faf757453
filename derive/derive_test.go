package derive_test

import (
	"math"
	"slices"
	"strings"
	"testing"

	"semigroup/api"
	"semigroup/derive"
	"semigroup/expr"
	"semigroup/tree"
)

// TestByLetter: P5.1, all small expressions and many of up to 400 nodes, against the table and the steps of the normal form.
func TestByLetter(t *testing.T) {
	outcomes := map[api.Errno]int{}
	for _, e := range slices.Concat(tree.Small(5), plain(), tree.Scattered(1500)) {
		for letter := range api.MaxLetters {
			got, why := derive.ByLetter(e, letter)
			want, wanted := byLetter(e, letter)
			if why != wanted || !tree.Same(got, want) {
				t.Fatalf("%s by %d: %s, %d, want %s, %d", expr.Format(e), letter, expr.Format(got), why, expr.Format(want), wanted)
			}
			outcomes[why]++
		}
	}
	if outcomes[api.OK] == 0 || outcomes[api.ErrLimit] == 0 {
		t.Error("outcomes:", outcomes)
	}
}

// TestByLetterByHand: P5.1, each line of the table, first kids that are nullable, and expressions that are not normal.
func TestByLetterByHand(t *testing.T) {
	for i, c := range []struct {
		s      string
		letter int
		want   string
	}{
		{"0", 0, "0"}, {"1", 0, "0"}, {"a", 0, "1"}, {"a", 1, "0"}, {"f", 5, "1"}, {"f", 0, "0"},
		{"a|b", 0, "1"}, {"a|b", 1, "1"}, {"a|b", 2, "0"}, {"ac|ab", 0, "b|c"}, {"ab|!0", 0, "!0"},
		{"ab&ac", 0, "b&c"}, {"a&b", 0, "0"}, {"ab&!0", 0, "b"}, {"!a&!a", 0, "!1"}, {"a&ab", 0, "1&b"},
		{"!a", 0, "!1"}, {"!a", 1, "!0"}, {"!!a", 0, "1"}, {"!0", 3, "!0"}, {"!!ab", 0, "b"},
		{"a*", 0, "a*"}, {"a*", 1, "0"}, {"(ab)*", 0, "b(ab)*"}, {"(ab)*", 1, "0"}, {"(a|1)*", 0, "(1|a)*"}, {"a**", 0, "a*a*"}, {"(!0)*", 0, "!0!0"}, {"(0*)*", 0, "0"},
		{"ab", 0, "b"}, {"ab", 1, "0"}, {"abc", 0, "bc"}, {"(ab)c", 0, "bc"}, {"a(bc)", 0, "bc"},
		{"a*b", 0, "a*b"}, {"a*b", 1, "1"}, {"a*a", 0, "1|a*a"}, {"a*b*c", 0, "a*b*c"}, {"a*b*c", 1, "b*c"}, {"a*b*c", 2, "1"},
		{"1a", 0, "1"}, {"11a", 0, "1"}, {"a1", 0, "1"}, {"1a*", 0, "a*"}, {"(1|a)(1|a)a", 0, "1|a|(1|a)a"}, {"(a|1)(a|1)b", 0, "b|(1|a)b"},
		{"!b!ca", 0, "1|!0a|!0!ca"}, {"!1ab", 0, "!0ab"}, {"a*ba*", 0, "a*ba*"}, {"a*a*a", 0, "1|a*a|a*a*a"}, {"(a*a*)a", 0, "1|(a*a*|a*)a"},
		{"((a|1)(a|1))b", 0, "(1|a)b"}, {"((1|a)(1|b))c", 0, "(1|b)c"}, {"((1|a)(a|1))c", 0, "(1|a)c"},
		{"a(b|b)", 0, "b"}, {"a(b1(cc))*", 0, "(bcc)*"}, {"(a!!b)*", 0, "b(ab)*"}, {"a0", 0, "0"}, {"(a0)*", 0, "0"}, {"a(b|!0)", 0, "!0"},
		{"a(b&c)|a(c&b)", 0, "b&c"}, {"a(b|c)|ad", 0, "b|c|d"},
	} {
		d, why := derive.ByLetter(tree.Parse(c.s), c.letter)
		if why != api.OK || expr.Format(d) != c.want {
			t.Errorf("case %d, %s by %d: %s, %d", i, c.s, c.letter, expr.Format(d), why)
		}
	}
}

// near is an expression whose derivative by the letter a is near the limits, and the error.
type near struct {
	name string
	e    api.Expr
	want api.Errno
}

func limits() []near {
	a, b := tree.Letter(0), tree.Letter(1)
	ab := tree.Node(api.OpConcat, a, b)
	star := func(e api.Expr) api.Expr { return tree.Node(api.OpStar, e) }
	word := func(n int) api.Expr { return tree.Row(api.OpConcat, n) }
	list := func(kids ...api.Expr) api.Expr { return tree.Node(api.OpConcat, kids...) }
	// The derivative of nested stars is the concatenation of all of them.
	high := func(n int) api.Expr { return tree.Chain(api.OpStar, n, a) }
	// The derivative of a star contains the star, one level deeper.
	deep := a
	for range 18 {
		deep = tree.Node(api.OpNot, tree.Node(api.OpAnd, ab, deep))
	}
	// The derivatives of a list of stars are all its ends.
	stars := func(n int) api.Expr { return list(slices.Repeat([]api.Expr{star(a)}, n)...) }
	return []near{
		{"399 nodes", list(star(word(198)), b), api.OK},
		{"400 nodes", star(word(199)), api.OK},
		{"401 nodes", list(star(word(199)), b), api.ErrLimit},
		{"402 nodes", star(word(200)), api.ErrLimit},
		{"depth 39", star(deep.Kids[0]), api.OK},
		{"depth 40", star(deep), api.OK},
		{"depth 41", tree.Node(api.OpNot, star(deep)), api.ErrLimit},
		{"depth 41 in a list", tree.Node(api.OpUnion, star(deep), ab), api.ErrLimit},
		{"too many nodes before equal parts", star(tree.Row(api.OpUnion, 398)), api.OK},
		{"too many nodes before empty parts", star(tree.Node(api.OpUnion, list(tree.Node(api.OpAnd, a, b), word(190)), list(a, b, word(3)))), api.OK},
		{"too deep before the normal form", high(39), api.OK},
		{"too deep, 400 nodes", list(high(38), word(161)), api.OK},
		{"too deep, 402 nodes", list(high(38), word(162)), api.ErrLimit},
		{"19 stars", stars(19), api.OK},
		{"20 stars", stars(20), api.ErrLimit},
		{"199 stars", stars(199), api.ErrLimit},
		{"a letter and 198 stars", list(a, stars(198)), api.OK},
	}
}

// TestByLetterLimits: P5.1, derivatives that are larger than the limits while the normal forms are not, and normal forms at the limits and beyond.
func TestByLetterLimits(t *testing.T) {
	for _, c := range limits() {
		want, wanted := byLetter(c.e, 0)
		if wanted != c.want || expr.Validate(c.e, 2) != api.OK || strings.HasPrefix(c.name, "too") && !large(table(c.e, 0)) {
			nodes, depth := size(tree.NormalForm(table(c.e, 0)))
			t.Errorf("%s: not so: %d nodes, depth %d", c.name, nodes, depth)
		}
		if got, why := derive.ByLetter(c.e, 0); why != c.want || !tree.Same(got, want) {
			t.Errorf("%s: %s, %d", c.name, expr.Format(got), why)
		}
		if got, why := derive.ByLetter(c.e, api.MaxLetters); why != api.ErrArg || !tree.Same(got, api.Expr{}) {
			t.Errorf("%s: %v, %d, want %d", c.name, got, why, api.ErrArg)
		}
	}
}

// TestByLetterErrors: P5.1, invalid expressions before letters out of range.
func TestByLetterErrors(t *testing.T) {
	letters := []int{math.MinInt, -1, 0, api.MaxLetters - 1, api.MaxLetters, 1 << 32, math.MaxInt}
	for _, letter := range letters {
		for _, e := range tree.Invalid() {
			if got, why := derive.ByLetter(e, letter); why == api.OK || why != expr.Validate(e, api.MaxLetters) || !tree.Same(got, api.Expr{}) {
				t.Errorf("%v by %d: %v, %d", e, letter, got, why)
			}
		}
		want := api.OK
		if letter < 0 || letter >= api.MaxLetters {
			want = api.ErrArg
		}
		if got, why := derive.ByLetter(tree.Parse("!a"), letter); why != want || (why == api.OK) == tree.Same(got, api.Expr{}) {
			t.Errorf("by %d: %v, %d", letter, got, why)
		}
	}
}

// TestByWord: P5.2, against derivatives by one letter after the other.
func TestByWord(t *testing.T) {
	short := tree.Words(2, 4)
	for _, e := range plain() {
		for _, w := range short {
			want, wanted := tree.NormalForm(e), api.OK
			for i := 0; i < len(w) && wanted == api.OK; i++ {
				want, wanted = byLetter(want, int(w[i]-'a'))
			}
			if got, why := derive.ByWord(e, w); why != wanted || !tree.Same(got, want) {
				t.Fatalf("%s by %q: %s, %d, want %s, %d", expr.Format(e), w, expr.Format(got), why, expr.Format(want), wanted)
			}
		}
	}
}

// TestByWordByHand: P5.2, the empty word, long words and all letters.
func TestByWordByHand(t *testing.T) {
	for i, c := range []struct{ s, w, want string }{
		{"1a", "", "a"}, {"b|a|b", "", "a|b"}, {"!!a**", "", "a*"}, {"(ab)*", "", "(ab)*"},
		{"a**", "a", "a*"}, {"(a*a*)a", "", "a*a*a"}, {"((1|a)(a|1))c", "a", "c|(1|a)c"},
		{"(ab)*", "aba", "b(ab)*"}, {"(ab)*", "ab", "(ab)*"}, {"(a|b)*a", "ab", "(a|b)*a"}, {"abcdef", "abcdef", "1"}, {"abcdef", "abcdefa", "0"}, {"abcdef", "abce", "0"}, {"ab", "ba", "0"},
		{"!(a*b)", "aab", "!1"}, {"!(a*b)", "aabb", "!0"}, {"(aa)*", strings.Repeat("a", api.MaxWord-1), "a(aa)*"}, {"(a|b)*&!(!0aa!0)", "aba", "(a|b)*&!(a!0|!0aa!0)"},
	} {
		d, why := derive.ByWord(tree.Parse(c.s), c.w)
		if why != api.OK || expr.Format(d) != c.want {
			t.Errorf("case %d, %s by %q: %s, %d", i, c.s, c.w, expr.Format(d), why)
		}
	}
}

// TestByWordErrors: P5.2, invalid expressions before what is no word, and that before derivatives that are too large, in the middle or at the end.
func TestByWordErrors(t *testing.T) {
	long := strings.Repeat("a", api.MaxWord)
	for _, w := range []string{"", "a", "g", "A", "a a", "é", "a\x00", long, long + "a"} {
		for _, e := range tree.Invalid() {
			if got, why := derive.ByWord(e, w); why == api.OK || why != expr.Validate(e, api.MaxLetters) || !tree.Same(got, api.Expr{}) {
				t.Errorf("%v by %q: %v, %d", e, w, got, why)
			}
		}
	}
	a := tree.Letter(0)
	tooLarge := tree.Node(api.OpStar, tree.Row(api.OpConcat, 200))
	later := tree.Node(api.OpConcat, a, a, tooLarge, tree.Node(api.OpStar, a))
	for i, c := range []struct {
		e    api.Expr
		w    string
		want api.Errno
	}{
		{a, "g", api.ErrArg}, {a, "ag", api.ErrArg}, {a, long + "a", api.ErrArg}, {a, "\xff", api.ErrArg}, {a, long, api.OK}, {a, "bf", api.OK},
		{tooLarge, "", api.OK}, {tooLarge, "b", api.OK}, {tooLarge, "ba", api.OK}, {tooLarge, "a", api.ErrLimit}, {tooLarge, "ab", api.ErrLimit}, {tooLarge, "ag", api.ErrArg}, {tooLarge, "g", api.ErrArg}, {tooLarge, long + "a", api.ErrArg},
		{later, "aa", api.OK}, {later, "aaa", api.ErrLimit}, {later, "aaab", api.ErrLimit}, {later, "aab", api.OK}, {later, "aaag", api.ErrArg},
	} {
		if got, why := derive.ByWord(c.e, c.w); why != c.want || (why == api.OK) == tree.Same(got, api.Expr{}) {
			t.Errorf("case %d: %v, %d, want %d", i, got, why, c.want)
		}
	}
}

// TestByWordLanguage: P5.1 and P5.2, the definition of a derivative: w is in it if the word before it and w together are in the language.
func TestByWordLanguage(t *testing.T) {
	short := tree.Words(2, 3)
	for _, e := range plain() {
		for _, u := range short {
			d, why := derive.ByWord(e, u)
			if why != api.OK {
				t.Fatalf("%s by %q: %d", expr.Format(e), u, why)
			}
			for _, w := range short {
				if expr.Match(d, w) != tree.Belongs(e, u+w) {
					t.Fatalf("%s by %q is %s: %q", expr.Format(e), u, expr.Format(d), w)
				}
			}
		}
	}
}

// TestArguments: R3 and R4, expressions that other memory lies behind, and results that share none with the arguments.
func TestArguments(t *testing.T) {
	for _, e := range slices.Concat(tree.Small(4), tree.Scattered(100), tree.Invalid()) {
		e = tree.Spare(e)
		before := tree.Clone(e)
		var first []api.Expr
		for i := range 2 {
			var results []api.Expr
			for letter := range 3 {
				d, _ := derive.ByLetter(e, letter)
				results = append(results, d)
			}
			d, _ := derive.ByWord(e, "ab")
			results = append(results, d)
			d, _ = derive.ByWord(e, "")
			results = append(results, d)
			if i == 0 {
				for _, d := range results {
					first = append(first, tree.Clone(d))
					tree.Scribble(d)
				}
			} else if !slices.EqualFunc(first, results, tree.Same) {
				t.Fatal("not the same results:", texts(first), texts(results))
			}
		}
		if !tree.Untouched(e, before) {
			t.Fatal("an argument was modified:", before)
		}
	}
}
