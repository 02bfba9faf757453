package expr_test

import (
	"slices"
	"strings"
	"testing"

	"semigroup/api"
	"semigroup/expr"
)

// node makes a node without a letter.
func node(op int, kids ...api.Expr) api.Expr {
	return api.Expr{Op: op, Kids: kids}
}

func letter(number int) api.Expr {
	return api.Expr{Op: api.OpLetter, Letter: number}
}

// chain puts n nodes with the given Op, one above the other, above e.
func chain(op, n int, e api.Expr) api.Expr {
	for range n {
		e = node(op, e)
	}
	return e
}

// row makes a node with n kids that are the first letter.
func row(op, n int) api.Expr {
	return node(op, slices.Repeat([]api.Expr{letter(0)}, n)...)
}

// parse parses a text over all letters that must be right.
func parse(t *testing.T, s string) api.Expr {
	t.Helper()
	e, at, why := expr.Parse(s, api.MaxLetters)
	if at != 0 || why != api.OK {
		t.Fatalf("Parse(%q): offset %d, error %d", s, at, why)
	}
	return e
}

// same is equality of trees, by the definition.
func same(a, b api.Expr) bool {
	return a.Op == b.Op && a.Letter == b.Letter && slices.EqualFunc(a.Kids, b.Kids, same)
}

// clone copies a tree, with what lies between the lengths and the capacities of its lists.
func clone(e api.Expr) api.Expr {
	whole := e.Kids[:cap(e.Kids)]
	kids := make([]api.Expr, len(whole))
	for i := range whole {
		kids[i] = clone(whole[i])
	}
	e.Kids = kids[:len(e.Kids)]
	return e
}

// untouched compares a tree with its clone.
func untouched(e, copied api.Expr) bool {
	all := func(e api.Expr) []api.Expr { return e.Kids[:cap(e.Kids)] }
	return e.Op == copied.Op && e.Letter == copied.Letter && len(e.Kids) == len(copied.Kids) && slices.EqualFunc(all(e), all(copied), untouched)
}

// spare gives each list of kids some capacity behind its end, with nodes that are no expressions.
func spare(e api.Expr) api.Expr {
	kids := make([]api.Expr, len(e.Kids), len(e.Kids)+2)
	for i := range e.Kids {
		kids[i] = spare(e.Kids[i])
	}
	rest := kids[len(kids):cap(kids)]
	for i := range rest {
		rest[i] = api.Expr{Op: 77, Letter: i}
	}
	e.Kids = kids
	return e
}

// sums calls visit with each list of at least two positive numbers with the given sum.
func sums(sum int, visit func(list []int)) {
	var extend func(begin []int, rest int)
	extend = func(begin []int, rest int) {
		if rest == 0 && len(begin) > 1 {
			visit(begin)
		}
		for x := 1; x <= rest; x++ {
			extend(append(begin[:len(begin):len(begin)], x), rest-x)
		}
	}
	extend(nil, sum)
}

// choices calls visit with each list that takes one element from each of the given lists.
func choices(lists [][]api.Expr, visit func(kids []api.Expr)) {
	var extend func(begin []api.Expr)
	extend = func(begin []api.Expr) {
		if len(begin) == len(lists) {
			visit(begin)
			return
		}
		for _, e := range lists[len(begin)] {
			extend(append(begin[:len(begin):len(begin)], e))
		}
	}
	extend(nil)
}

// small lists all expressions over two letters with at most size nodes.
func small(size int) []api.Expr {
	ofSize := make([][]api.Expr, size+1)
	ofSize[1] = []api.Expr{node(api.OpEmpty), node(api.OpUnit), letter(0), letter(1)}
	for n := 2; n <= size; n++ {
		for _, kid := range ofSize[n-1] {
			ofSize[n] = append(ofSize[n], node(api.OpStar, kid), node(api.OpNot, kid))
		}
		sums(n-1, func(sizes []int) {
			var lists [][]api.Expr
			for _, x := range sizes {
				lists = append(lists, ofSize[x])
			}
			choices(lists, func(kids []api.Expr) {
				ofSize[n] = append(ofSize[n], node(api.OpUnion, kids...), node(api.OpConcat, kids...), node(api.OpAnd, kids...))
			})
		})
	}
	return slices.Concat(ofSize...)
}

// source yields numbers that follow no visible pattern.
type source uint64

// below returns a number from 0 to n - 1.
func (s *source) below(n int) int {
	*s += 0x9E3779B97F4A7C15
	x := uint64(*s)
	x ^= x >> 31
	x *= 0xBF58476D1CE4E5B9
	x ^= x >> 29
	return int(x % uint64(n))
}

// tree makes an expression over the first letters with exactly the given number of nodes, if the depth allows it, and with the given operations.
func (s *source) tree(nodes, depth, letters int, ops []int) api.Expr {
	if nodes <= 1 || depth <= 1 {
		leaf := s.below(letters + 2)
		if leaf < 2 {
			return node([]int{api.OpEmpty, api.OpUnit}[leaf])
		}
		return letter(leaf - 2)
	}
	op := ops[s.below(len(ops))]
	if nodes == 2 || op == api.OpStar || op == api.OpNot {
		if op != api.OpNot {
			op = api.OpStar
		}
		return node(op, s.tree(nodes-1, depth-1, letters, ops))
	}
	kids := 2 + s.below(min(4, nodes-2))
	e := node(op)
	rest := nodes - 1
	for i := range kids {
		share := rest
		if i < kids-1 {
			share = 1 + s.below(rest-(kids-1-i))
		}
		rest -= share
		e.Kids = append(e.Kids, s.tree(share, depth-1, letters, ops))
	}
	return e
}

var (
	allOps   = []int{api.OpUnion, api.OpConcat, api.OpAnd, api.OpStar, api.OpNot}
	plainOps = []int{api.OpUnion, api.OpConcat, api.OpStar}
)

// scattered lists count expressions over all letters, of all sizes up to the greatest one.
func scattered(count int) []api.Expr {
	var found []api.Expr
	for i := range count {
		s := source(i)
		found = append(found, s.tree(1+i*(api.MaxNodes-1)/max(count-1, 1), api.MaxDepth, api.MaxLetters, allOps))
	}
	return found
}

// invalid lists trees that are no valid expressions; many of them would have results other than zero.
func invalid() []api.Expr {
	a := letter(0)
	wrong := []api.Expr{
		{}, {Op: -1}, {Op: 9}, {Op: 1 << 40}, {Letter: 1}, node(0, a), node(9, a, a),
		node(api.OpEmpty, a), node(api.OpUnit, a), node(api.OpUnit, a, a), {Op: api.OpLetter, Kids: []api.Expr{a}},
		node(api.OpUnion), node(api.OpUnion, node(api.OpUnit)), node(api.OpConcat), node(api.OpConcat, node(api.OpUnit)),
		node(api.OpAnd), node(api.OpAnd, node(api.OpUnit)),
		node(api.OpStar), node(api.OpStar, a, a), node(api.OpNot), node(api.OpNot, a, a),
		letter(-1), letter(api.MaxLetters), letter(1 << 40),
		{Op: api.OpEmpty, Letter: 1}, {Op: api.OpUnit, Letter: 1}, {Op: api.OpUnit, Letter: -1},
		{Op: api.OpUnion, Letter: 1, Kids: []api.Expr{a, node(api.OpUnit)}}, {Op: api.OpConcat, Letter: 1, Kids: []api.Expr{a, a}},
		{Op: api.OpAnd, Letter: 1, Kids: []api.Expr{a, a}}, {Op: api.OpStar, Letter: 1, Kids: []api.Expr{a}}, {Op: api.OpNot, Letter: 1, Kids: []api.Expr{a}},
		row(api.OpUnion, api.MaxNodes), row(api.OpConcat, api.MaxNodes), node(api.OpStar, row(api.OpUnion, api.MaxNodes-1)),
		chain(api.OpStar, api.MaxDepth, a), chain(api.OpNot, api.MaxDepth, a),
	}
	for _, e := range wrong[:11] {
		wrong = append(wrong, node(api.OpStar, e), node(api.OpUnion, node(api.OpUnit), a, e), node(api.OpNot, node(api.OpConcat, a, node(api.OpNot, e))))
	}
	return wrong
}

// words lists the words over two letters of length at most n.
func words(n int) []string {
	list := []string{""}
	for i := 0; len(list[i]) < n; i++ {
		list = append(list, list[i]+"a", list[i]+"b")
	}
	return list
}

// long makes a word of length n over the first letters that follows no visible pattern.
func (s *source) long(n, letters int) string {
	var b strings.Builder
	for range n {
		b.WriteByte('a' + byte(s.below(letters)))
	}
	return b.String()
}

// belongs is the definition of the language of an expression.
func belongs(e api.Expr, w string) bool {
	switch e.Op {
	case api.OpUnit:
		return w == ""
	case api.OpLetter:
		return w == string(rune('a'+e.Letter))
	case api.OpUnion:
		return slices.ContainsFunc(e.Kids, func(kid api.Expr) bool { return belongs(kid, w) })
	case api.OpAnd:
		return !slices.ContainsFunc(e.Kids, func(kid api.Expr) bool { return !belongs(kid, w) })
	case api.OpNot:
		return !belongs(e.Kids[0], w)
	case api.OpConcat:
		if len(e.Kids) == 0 {
			return w == ""
		}
		for i := range len(w) + 1 {
			if belongs(e.Kids[0], w[:i]) && belongs(node(api.OpConcat, e.Kids[1:]...), w[i:]) {
				return true
			}
		}
	case api.OpStar:
		for i := 1; i <= len(w); i++ {
			if belongs(e.Kids[0], w[:i]) && belongs(e, w[i:]) {
				return true
			}
		}
		return w == ""
	}
	return false
}
