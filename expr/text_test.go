package expr_test

import (
	"math"
	"regexp"
	"slices"
	"strings"
	"testing"

	"semigroup/api"
	"semigroup/expr"
	"semigroup/tree"
)

// follows reports whether a text follows the grammar for one letter: operators and parentheses are taken away step by step until a letter is left.
func follows(text string) bool {
	text = strings.NewReplacer(" ", "", "0", "a", "1", "a").Replace(text)
	for text != "" {
		shorter := phrase.ReplaceAllString(text, "a")
		if shorter == text {
			break
		}
		text = shorter
	}
	return text == "a"
}

var phrase = regexp.MustCompile(`\(a\)|a\*|!a|a\|a|a&a|aa`)

// begins reports whether some text that follows the grammar for one letter begins with a text.
func begins(text string) bool {
	for k := range strings.Count(text, "(") + 1 {
		end := strings.Repeat(")", k)
		if follows(text+end) || follows(text+"a"+end) {
			return true
		}
	}
	return false
}

// misfit is the offset that Parse returns for a text that does not follow the grammar.
func misfit(text string) int {
	for i := range len(text) {
		if !begins(text[:i+1]) {
			return i
		}
	}
	return len(text)
}

// split cuts a text at the places outside of parentheses where cut says so of the byte before and the byte behind.
func split(text string, cut func(before, behind byte) bool) []string {
	var parts []string
	level, from := 0, 0
	for i := range len(text) {
		if i > 0 && level == 0 && cut(text[i-1], text[i]) {
			parts = append(parts, text[from:i])
			from = i
		}
		switch text[i] {
		case '(':
			level++
		case ')':
			level--
		}
	}
	return append(parts, text[from:])
}

// read is the grammar, for texts without blanks that follow it, from the outermost operation inwards.
func read(text string) api.Expr {
	for _, x := range []struct {
		op  int
		sep string
	}{{api.OpUnion, "|"}, {api.OpAnd, "&"}, {api.OpConcat, ""}} {
		parts := split(text, func(before, behind byte) bool {
			if x.sep != "" {
				return behind == x.sep[0]
			}
			return before != '!' && behind != '*'
		})
		if len(parts) > 1 {
			e := tree.Node(x.op)
			for _, part := range parts {
				e.Kids = append(e.Kids, read(strings.TrimPrefix(part, x.sep)))
			}
			return e
		}
	}
	last := len(text) - 1
	switch {
	case text[0] == '!':
		return tree.Node(api.OpNot, read(text[1:]))
	case text[last] == '*':
		return tree.Node(api.OpStar, read(text[:last]))
	case text[0] == '(':
		return read(text[1:last])
	case text == "0":
		return tree.Node(api.OpEmpty)
	case text == "1":
		return tree.Node(api.OpUnit)
	}
	return tree.Letter(int(text[0] - 'a'))
}

// TestParseAll: P4.3, all short texts over one letter, with bytes that never fit, and longer ones over fewer bytes.
func TestParseAll(t *testing.T) {
	accepted, refused := 0, 0
	check := func(s string) {
		e, at, why := expr.Parse(s, 1)
		if !follows(s) {
			refused++
			if want := misfit(s); at != want || why != api.ErrSyntax || !tree.Same(e, api.Expr{}) {
				t.Fatalf("%q: %v, offset %d, error %d, want offset %d", s, e, at, why, want)
			}
			return
		}
		accepted++
		if want := read(strings.ReplaceAll(s, " ", "")); at != 0 || why != api.OK || !tree.Same(e, want) {
			t.Fatalf("%q: %v, offset %d, error %d, want %v", s, e, at, why, want)
		}
	}
	for _, x := range []struct {
		bytes string
		n     int
	}{{"a0|&!*() b", 4}, {"a|!*()", 5}, {"a!()", 7}, {"a|&*", 7}} {
		list := []string{""}
		for i := 0; i < len(list); i++ {
			check(list[i])
			for j := 0; j < len(x.bytes) && len(list[i]) < x.n; j++ {
				list = append(list, list[i]+x.bytes[j:j+1])
			}
		}
	}
	if accepted < 1000 || refused < 10000 {
		t.Errorf("%d texts accepted, %d refused", accepted, refused)
	}
}

// TestParseTrees: P4.3, trees by hand.
func TestParseTrees(t *testing.T) {
	a, b, c := tree.Letter(0), tree.Letter(1), tree.Letter(2)
	for s, want := range map[string]api.Expr{
		"0": tree.Node(api.OpEmpty), "1": tree.Node(api.OpUnit), "a": a, "f": tree.Letter(5),
		"a|b|c": tree.Node(api.OpUnion, a, b, c), "(a|b)|c": tree.Node(api.OpUnion, tree.Node(api.OpUnion, a, b), c), "a|(b|c)": tree.Node(api.OpUnion, a, tree.Node(api.OpUnion, b, c)),
		"a&b&c": tree.Node(api.OpAnd, a, b, c), "(a&b)&c": tree.Node(api.OpAnd, tree.Node(api.OpAnd, a, b), c), "abc": tree.Node(api.OpConcat, a, b, c), "a(bc)": tree.Node(api.OpConcat, a, tree.Node(api.OpConcat, b, c)),
		"((a|b|c))": tree.Node(api.OpUnion, a, b, c), "(((a)))": a, "c|b|c": tree.Node(api.OpUnion, c, b, c),
		"a|b&c": tree.Node(api.OpUnion, a, tree.Node(api.OpAnd, b, c)), "a&b|c": tree.Node(api.OpUnion, tree.Node(api.OpAnd, a, b), c), "a&bc": tree.Node(api.OpAnd, a, tree.Node(api.OpConcat, b, c)), "(a|b)&c": tree.Node(api.OpAnd, tree.Node(api.OpUnion, a, b), c),
		"a|!b*c": tree.Node(api.OpUnion, a, tree.Node(api.OpConcat, tree.Node(api.OpNot, tree.Node(api.OpStar, b)), c)),
		"!ab":    tree.Node(api.OpConcat, tree.Node(api.OpNot, a), b), "!(ab)": tree.Node(api.OpNot, tree.Node(api.OpConcat, a, b)), "!a*": tree.Node(api.OpNot, tree.Node(api.OpStar, a)), "(!a)*": tree.Node(api.OpStar, tree.Node(api.OpNot, a)),
		"!!a": tree.Node(api.OpNot, tree.Node(api.OpNot, a)), "a**": tree.Node(api.OpStar, tree.Node(api.OpStar, a)), "ab*": tree.Node(api.OpConcat, a, tree.Node(api.OpStar, b)), "(ab)*": tree.Node(api.OpStar, tree.Node(api.OpConcat, a, b)), "a*b": tree.Node(api.OpConcat, tree.Node(api.OpStar, a), b),
		" ( a | ! b ) * c ": tree.Node(api.OpConcat, tree.Node(api.OpStar, tree.Node(api.OpUnion, a, tree.Node(api.OpNot, b))), c),
	} {
		if e := tree.Parse(s); !tree.Same(e, want) {
			t.Errorf("%s: %v, want %v", s, e, want)
		}
	}
}

// TestParseErrors: P4.3, offsets and the order of the errors, by hand.
func TestParseErrors(t *testing.T) {
	blanks := strings.Repeat(" ", api.MaxText)
	for i, c := range []struct {
		s       string
		letters int
		at      int
		why     api.Errno
	}{
		{"a)", 2, 1, api.ErrSyntax}, {"(a", 2, 2, api.ErrSyntax}, {"c", 2, 0, api.ErrSyntax}, {"", 2, 0, api.ErrSyntax}, {"   ", 2, 3, api.ErrSyntax}, {"(", 2, 1, api.ErrSyntax},
		{"a|", 2, 2, api.ErrSyntax}, {"a|  ", 2, 4, api.ErrSyntax}, {"a&", 2, 2, api.ErrSyntax}, {"a(", 2, 2, api.ErrSyntax}, {"!", 2, 1, api.ErrSyntax}, {"( a ", 2, 4, api.ErrSyntax}, {"((a)", 2, 4, api.ErrSyntax},
		{"a||b", 2, 2, api.ErrSyntax}, {"a|&b", 2, 2, api.ErrSyntax}, {"|a", 2, 0, api.ErrSyntax}, {"*", 2, 0, api.ErrSyntax}, {"!*", 2, 1, api.ErrSyntax}, {"()", 2, 1, api.ErrSyntax}, {"( )", 2, 2, api.ErrSyntax}, {"(|)", 2, 1, api.ErrSyntax}, {"a|)", 2, 2, api.ErrSyntax},
		{")", 2, 0, api.ErrSyntax}, {"(a))", 2, 3, api.ErrSyntax}, {"a c(", 2, 2, api.ErrSyntax}, {"a  +", 2, 3, api.ErrSyntax}, {"a*\x00", 2, 2, api.ErrSyntax}, {"(a\n)", 2, 2, api.ErrSyntax}, {"a\tb", 2, 1, api.ErrSyntax}, {"aé", 2, 1, api.ErrSyntax}, {"\xff", 2, 0, api.ErrSyntax}, {"a|A", 2, 2, api.ErrSyntax}, {"2", 2, 0, api.ErrSyntax},

		{"a", 0, 0, api.ErrArg}, {"a", -1, 0, api.ErrArg}, {"a", api.MaxLetters + 1, 0, api.ErrArg}, {"", math.MinInt, 0, api.ErrArg}, {"a)", math.MaxInt, 0, api.ErrArg}, {blanks + " ", 0, 0, api.ErrArg}, {strings.Repeat("a", api.MaxNodes), 7, 0, api.ErrArg},

		{blanks[1:] + "a", 2, 0, api.OK}, {blanks, 2, api.MaxText, api.ErrSyntax}, {blanks + "a", 2, 0, api.ErrLimit}, {blanks + ")", 2, 0, api.ErrLimit}, {"c" + blanks, 2, 0, api.ErrLimit},
		{strings.Repeat("(", 2047) + " a" + strings.Repeat(")", 2047), 2, 0, api.OK}, {strings.Repeat("(", 2048) + strings.Repeat(")", 2048), 2, 2048, api.ErrSyntax}, {strings.Repeat("(", 2047) + "a" + strings.Repeat(")", 2048), 2, 4095, api.ErrSyntax},
		{strings.Repeat("(", api.MaxText), 2, api.MaxText, api.ErrSyntax}, {strings.Repeat("!", api.MaxText), 2, api.MaxText, api.ErrSyntax}, {strings.Repeat("a", api.MaxText), 2, 0, api.ErrLimit}, {"a" + strings.Repeat("*", api.MaxText-1), 2, 0, api.ErrLimit},

		{strings.Repeat("a", api.MaxNodes-1), 2, 0, api.OK}, {strings.Repeat("a", api.MaxNodes), 2, 0, api.ErrLimit}, {strings.Repeat("a", api.MaxNodes) + ")", 2, api.MaxNodes, api.ErrSyntax}, {"a|" + strings.Repeat("b", api.MaxNodes-3), 2, 0, api.OK}, {"a|" + strings.Repeat("b", api.MaxNodes-2), 2, 0, api.ErrLimit},
		{strings.Repeat("!", api.MaxDepth-1) + "a", 2, 0, api.OK}, {strings.Repeat("!", api.MaxDepth) + "a", 2, 0, api.ErrLimit}, {strings.Repeat("!", api.MaxDepth) + "ac", 2, api.MaxDepth + 1, api.ErrSyntax}, {"a" + strings.Repeat("*", api.MaxDepth-1), 2, 0, api.OK}, {"a" + strings.Repeat("*", api.MaxDepth), 2, 0, api.ErrLimit},
	} {
		e, at, why := expr.Parse(c.s, c.letters)
		if at != c.at || why != c.why || (why == api.OK) != (e.Op != 0) || why != api.OK && !tree.Same(e, api.Expr{}) {
			t.Errorf("case %d: %v, offset %d, error %d, want offset %d, error %d", i, e, at, why, c.at, c.why)
		}
	}
}

// TestParseBytes: P4.3, each byte for each number of letters.
func TestParseBytes(t *testing.T) {
	for letters := 1; letters <= api.MaxLetters; letters++ {
		for b := range 256 {
			s := string([]byte{byte(b)})
			e, at, why := expr.Parse("a|"+s, letters)
			var want api.Expr
			switch {
			case s == "0":
				want = tree.Node(api.OpEmpty)
			case s == "1":
				want = tree.Node(api.OpUnit)
			case b >= 'a' && b < 'a'+letters:
				want = tree.Letter(b - 'a')
			default:
				offset := 2
				if s == " " || s == "!" || s == "(" {
					offset = 3 // it fits, but the text ends too early
				}
				if at != offset || why != api.ErrSyntax || !tree.Same(e, api.Expr{}) {
					t.Errorf("%q over %d letters: %v, offset %d, error %d", s, letters, e, at, why)
				}
				continue
			}
			if at != 0 || why != api.OK || !tree.Same(e, tree.Node(api.OpUnion, tree.Letter(0), want)) {
				t.Errorf("%q over %d letters: %v, offset %d, error %d", s, letters, e, at, why)
			}
		}
	}
}

// TestFormat: P4.4, each kind of kid in each place of each kind of node.
func TestFormat(t *testing.T) {
	c := tree.Letter(2)
	kids := []string{"0", "1", "b", "a|b", "a&b", "ab", "!a", "a*"}
	for _, x := range []struct {
		op   int
		want string
	}{
		{api.OpUnion, "0 1 b (a|b) a&b ab !a a*"},
		{api.OpAnd, "0 1 b (a|b) (a&b) ab !a a*"},
		{api.OpConcat, "0 1 b (a|b) (a&b) (ab) !a a*"},
		{api.OpNot, "0 1 b (a|b) (a&b) (ab) !a a*"},
		{api.OpStar, "0 1 b (a|b) (a&b) (ab) (!a) a*"},
	} {
		for i, text := range strings.Fields(x.want) {
			kid := tree.Parse(kids[i])
			sep := map[int]string{api.OpUnion: "|", api.OpAnd: "&"}[x.op]
			e, want := tree.Node(x.op, kid, c, kid), text+sep+"c"+sep+text
			switch x.op {
			case api.OpNot:
				e, want = tree.Node(x.op, kid), "!"+text
			case api.OpStar:
				e, want = tree.Node(x.op, kid), text+"*"
			}
			if got := expr.Format(e); got != want {
				t.Errorf("%v: %q, want %q", e, got, want)
			}
		}
	}
	for number := range api.MaxLetters {
		if got := expr.Format(tree.Letter(number)); got != "abcdef"[number:number+1] {
			t.Errorf("letter %d: %q", number, got)
		}
	}
	for _, e := range tree.Invalid() {
		if got := expr.Format(e); got != "" {
			t.Errorf("%v: %q", e, got)
		}
	}
}

// TestRoundTrip: P4.5, and blanks before and after each byte (P4.3).
func TestRoundTrip(t *testing.T) {
	limits := []api.Expr{tree.Row(api.OpUnion, api.MaxNodes-1), tree.Row(api.OpConcat, api.MaxNodes-1), tree.Chain(api.OpStar, api.MaxDepth-1, tree.Letter(0)), tree.Chain(api.OpNot, api.MaxDepth-1, tree.Letter(5))}
	full := tree.Row(api.OpConcat, 2)
	for range api.MaxDepth - 2 {
		full = tree.Node(api.OpConcat, tree.Letter(5), full, tree.Row(api.OpUnion, 6))
	}
	for _, e := range slices.Concat(tree.Small(5), tree.Scattered(300), limits, []api.Expr{full}) {
		s := expr.Format(e)
		if s == "" || strings.Contains(s, " ") {
			t.Fatalf("%v: %q", e, s)
		}
		for _, text := range []string{s, " " + strings.Join(strings.Split(s, ""), "  ") + " "} {
			if len(text) > api.MaxText {
				continue
			}
			if back, at, why := expr.Parse(text, api.MaxLetters); at != 0 || why != api.OK || !tree.Same(back, e) {
				t.Fatalf("%q: %v, offset %d, error %d", text, back, at, why)
			}
		}
	}
}
