package tree

import (
	"strings"

	"semigroup/api"
)

// AllOps lists the operations of which expressions are made.
func AllOps() []int {
	return []int{api.OpUnion, api.OpConcat, api.OpAnd, api.OpStar, api.OpNot}
}

// PlainOps lists the operations without complements and intersections.
func PlainOps() []int {
	return []int{api.OpUnion, api.OpConcat, api.OpStar}
}

// Source yields numbers that follow no visible pattern.
type Source uint64

// Below returns a number from 0 to n - 1.
func (s *Source) Below(n int) int {
	*s += 0x9E3779B97F4A7C15
	x := uint64(*s)
	x ^= x >> 31
	x *= 0xBF58476D1CE4E5B9
	x ^= x >> 29
	return int(x % uint64(n))
}

// Tree makes an expression over the first letters with exactly the given number of nodes, if the depth allows it, and with the given operations.
func (s *Source) Tree(nodes, depth, letters int, ops []int) api.Expr {
	if nodes <= 1 || depth <= 1 {
		leaf := s.Below(letters + 2)
		if leaf < 2 {
			return Node([]int{api.OpEmpty, api.OpUnit}[leaf])
		}
		return Letter(leaf - 2)
	}
	op := ops[s.Below(len(ops))]
	if nodes == 2 || op == api.OpStar || op == api.OpNot {
		if op != api.OpNot {
			op = api.OpStar
		}
		return Node(op, s.Tree(nodes-1, depth-1, letters, ops))
	}
	kids := 2 + s.Below(min(4, nodes-2))
	e := Node(op)
	rest := nodes - 1
	for i := range kids {
		share := rest
		if i < kids-1 {
			share = 1 + s.Below(rest-(kids-1-i))
		}
		rest -= share
		e.Kids = append(e.Kids, s.Tree(share, depth-1, letters, ops))
	}
	return e
}

// Scattered lists count expressions over all letters, of all sizes up to the greatest one.
func Scattered(count int) []api.Expr {
	var found []api.Expr
	for i := range count {
		s := Source(i)
		found = append(found, s.Tree(1+i*(api.MaxNodes-1)/max(count-1, 1), api.MaxDepth, api.MaxLetters, AllOps()))
	}
	return found
}

// Long makes a word of length n over the first letters that follows no visible pattern.
func (s *Source) Long(n, letters int) string {
	var b strings.Builder
	for range n {
		b.WriteByte('a' + byte(s.Below(letters)))
	}
	return b.String()
}
