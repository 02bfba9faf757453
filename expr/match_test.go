package expr_test

import (
	"regexp"
	"slices"
	"strings"
	"testing"

	"semigroup/api"
	"semigroup/expr"
	"semigroup/tree"
)

// TestMatch: P4.9, all small expressions and many larger ones, against the definition.
func TestMatch(t *testing.T) {
	short := tree.Words(2, 4)
	var larger []api.Expr
	for i := range 1000 {
		s := tree.Source(i)
		larger = append(larger, s.Tree(6+i/100, 8, 2, tree.AllOps()))
	}
	for _, e := range slices.Concat(tree.Small(5), larger) {
		for _, w := range short {
			if got, want := expr.Match(e, w), tree.Belongs(e, w); got != want {
				t.Fatalf("%s, %q: %v", expr.Format(e), w, got)
			}
		}
	}
}

// TestMatchByHand: P4.9, the examples, letters beyond the expression's, words of the greatest length and what is no word.
func TestMatchByHand(t *testing.T) {
	longest := strings.Repeat("a", api.MaxWord)
	for i, c := range []struct {
		s, w string
		want bool
	}{
		{"(a|b)*&!(b)", "b", false}, {"(a|b)*&!(b)", "", true}, {"(a|b)*&!(b)", "bb", true},
		{"0", "", false}, {"1", "", true}, {"1", "a", false}, {"a", "", false}, {"f", "f", true}, {"f", "a", false}, {"a*", "", true},
		{"!a", "fedcba", true}, {"!0", "f", true}, {"!0", "g", false}, {"!0", "A", false}, {"!0", "a b", false}, {"!0", " ", false}, {"!0", "a\x00", false}, {"!0", "é", false}, {"!a", "`", false},
		{"a*", longest, true}, {"!0", longest, true}, {"(aa)*", longest, true}, {"a(aa)*", longest, false}, {"!(a*b)", longest, true}, {"!0", longest + "a", false}, {"a*", longest + "a", false}, {"(aa)*a", longest + "a", false},
		{"!(!0aba!0)&(a|b)*", "abba", true}, {"!(!0aba!0)&(a|b)*", "bababb", false}, {"!0b&a!0", "ab", true}, {"!0b&a!0", "b", false}, {"a!(b)c", "abc", false}, {"a!(b)c", "ac", true}, {"a!b*c", "abbc", false}, {"a!b*c", "abac", true},
		{"(a*b*)*", "babba", true}, {"(a*&b*)*", "a", false}, {"(a*&b*)*", "", true}, {"(1|a)(1|a)", "aaa", false}, {"((1|a)(1|b))*", "abba", true},
	} {
		if got := expr.Match(tree.Parse(c.s), c.w); got != c.want {
			t.Errorf("case %d, %s: %v", i, c.s, got)
		}
	}
	for _, e := range tree.Invalid() {
		for _, w := range []string{"", "a", "aa"} {
			if expr.Match(e, w) {
				t.Errorf("%v, %q: true", e, w)
			}
		}
	}
}

// pattern writes an expression without complements and intersections for package regexp.
func pattern(e api.Expr) string {
	var parts []string
	for _, kid := range e.Kids {
		parts = append(parts, "(?:"+pattern(kid)+")")
	}
	switch e.Op {
	case api.OpEmpty:
		return `[^\x00-\x{10FFFF}]`
	case api.OpLetter:
		return "abcdef"[e.Letter : e.Letter+1]
	case api.OpUnion:
		return strings.Join(parts, "|")
	case api.OpStar:
		return parts[0] + "*"
	}
	return strings.Join(parts, "")
}

// TestMatchLong: P4.9, words around the multiples of 64, against package regexp.
func TestMatchLong(t *testing.T) {
	outcomes := map[bool]int{}
	for i := range 300 {
		s := tree.Source(i)
		e := s.Tree(8+i/10, 12, 2, tree.PlainOps())
		re := regexp.MustCompile("^(?:" + pattern(e) + ")$")
		for _, n := range []int{0, 1, 2, 5, 62, 63, 64, 65, 127, 128, 129} {
			for _, w := range []string{s.Long(n, 2), strings.Repeat("a", n), strings.Repeat("ab", n)[:n], member(&s, e, n)} {
				got, want := expr.Match(e, w), re.MatchString(w)
				if got != want {
					t.Fatalf("%s, %q: %v", expr.Format(e), w, got)
				}
				outcomes[got]++
			}
		}
	}
	if outcomes[true] < 1000 || outcomes[false] < 1000 {
		t.Error("too few matches, or too many:", outcomes)
	}
}

// member makes a word that is in the language of e if no part of e is empty; stars take parts until it has about n bytes.
func member(s *tree.Source, e api.Expr, n int) string {
	w := ""
	switch e.Op {
	case api.OpLetter:
		w = "abcdef"[e.Letter : e.Letter+1]
	case api.OpUnion:
		w = member(s, e.Kids[s.Below(len(e.Kids))], n)
	case api.OpConcat:
		for _, kid := range e.Kids {
			w += member(s, kid, n/len(e.Kids))
		}
	case api.OpStar:
		for range n {
			if len(w) < n {
				w += member(s, e.Kids[0], n/4)
			}
		}
	}
	return w[:min(len(w), 300)]
}

// TestMatchCounts: P4.9, intersections and complements on words around the multiples of 64.
func TestMatchCounts(t *testing.T) {
	for s, want := range map[string]func(n int) bool{
		"(aa)*&(aaa)*":          func(n int) bool { return n%6 == 0 },
		"!((aa)*)&!((aaa)*)&!b": func(n int) bool { return n%2 != 0 && n%3 != 0 },
		"!((aa)*)!((aaa)*)":     func(n int) bool { return n >= 2 },
		"!((aa)*|!(a*))":        func(n int) bool { return n%2 == 1 },
		"(aaa&!1)(aa)*":         func(n int) bool { return n >= 3 && n%2 == 1 },
		"((aaaa)*&(aaaaaa)*)a":  func(n int) bool { return n%12 == 1 },
		"((aaa|aaaaa)&!(aaa))*": func(n int) bool { return n%5 == 0 },
		"(!(a*))*":              func(n int) bool { return n == 0 },
		"(!1&!a&!(aaa))*":       func(n int) bool { return n != 1 && n != 3 },
		"!0!0!0":                func(n int) bool { return true },
		"a!0a":                  func(n int) bool { return n >= 2 },
		"!0b!0":                 func(n int) bool { return false },
	} {
		e := tree.Parse(s)
		for _, n := range slices.Concat(span(0, 20), span(60, 70), span(125, 132), []int{191, 192, 193, 319, 320, 321, 1000, api.MaxWord - 1, api.MaxWord}) {
			if got := expr.Match(e, strings.Repeat("a", n)); got != want(n) {
				t.Errorf("%s, %d letters: %v", s, n, got)
			}
		}
	}
}

func span(first, last int) []int {
	var list []int
	for i := first; i <= last; i++ {
		list = append(list, i)
	}
	return list
}
