// Package tree makes and compares expressions, by their definition as trees. Only tests use it.
package tree

import (
	"slices"

	"semigroup/api"
)

// Node makes a node without a letter.
func Node(op int, kids ...api.Expr) api.Expr {
	return api.Expr{Op: op, Kids: kids}
}

// Letter makes the letter with the given number.
func Letter(number int) api.Expr {
	return api.Expr{Op: api.OpLetter, Letter: number}
}

// Chain puts n nodes with the given Op, one above the other, above e.
func Chain(op, n int, e api.Expr) api.Expr {
	for range n {
		e = Node(op, e)
	}
	return e
}

// Row makes a node with n kids that are the first letter.
func Row(op, n int) api.Expr {
	return Node(op, slices.Repeat([]api.Expr{Letter(0)}, n)...)
}

// Same is equality of trees, by the definition.
func Same(a, b api.Expr) bool {
	return a.Op == b.Op && a.Letter == b.Letter && slices.EqualFunc(a.Kids, b.Kids, Same)
}

// Clone copies a tree, with what lies between the lengths and the capacities of its lists.
func Clone(e api.Expr) api.Expr {
	whole := e.Kids[:cap(e.Kids)]
	kids := make([]api.Expr, len(whole))
	for i := range whole {
		kids[i] = Clone(whole[i])
	}
	e.Kids = kids[:len(e.Kids)]
	return e
}

// Untouched compares a tree with its clone.
func Untouched(e, copied api.Expr) bool {
	all := func(e api.Expr) []api.Expr { return e.Kids[:cap(e.Kids)] }
	return e.Op == copied.Op && e.Letter == copied.Letter && len(e.Kids) == len(copied.Kids) && slices.EqualFunc(all(e), all(copied), Untouched)
}

// Spare gives each list of kids some capacity behind its end, with nodes that are no expressions.
func Spare(e api.Expr) api.Expr {
	kids := make([]api.Expr, len(e.Kids), len(e.Kids)+2)
	for i := range e.Kids {
		kids[i] = Spare(e.Kids[i])
	}
	rest := kids[len(kids):cap(kids)]
	for i := range rest {
		rest[i] = api.Expr{Op: 77, Letter: i}
	}
	e.Kids = kids
	return e
}

// Scribble writes over a tree.
func Scribble(e api.Expr) {
	kids := e.Kids[:cap(e.Kids)]
	for i := range kids {
		Scribble(kids[i])
		kids[i] = api.Expr{Op: 99}
	}
}
