package tree

import (
	"slices"

	"semigroup/api"
	"semigroup/expr"
)

// Parse parses a text over all letters, and panics if it is wrong.
func Parse(s string) api.Expr {
	e, at, why := expr.Parse(s, api.MaxLetters)
	if at != 0 || why != api.OK {
		panic("no expression: " + s)
	}
	return e
}

// Belongs is the definition of the language of an expression.
func Belongs(e api.Expr, w string) bool {
	switch e.Op {
	case api.OpUnit:
		return w == ""
	case api.OpLetter:
		return w == string(rune('a'+e.Letter))
	case api.OpUnion:
		return slices.ContainsFunc(e.Kids, func(kid api.Expr) bool { return Belongs(kid, w) })
	case api.OpAnd:
		return !slices.ContainsFunc(e.Kids, func(kid api.Expr) bool { return !Belongs(kid, w) })
	case api.OpNot:
		return !Belongs(e.Kids[0], w)
	case api.OpConcat:
		if len(e.Kids) == 0 {
			return w == ""
		}
		for i := range len(w) + 1 {
			if Belongs(e.Kids[0], w[:i]) && Belongs(Node(api.OpConcat, e.Kids[1:]...), w[i:]) {
				return true
			}
		}
	case api.OpStar:
		for i := 1; i <= len(w); i++ {
			if Belongs(e.Kids[0], w[:i]) && Belongs(e, w[i:]) {
				return true
			}
		}
		return w == ""
	}
	return false
}

// NormalForm is the definition of the normal form of an expression of any size.
func NormalForm(e api.Expr) api.Expr {
	var kids []api.Expr
	for _, kid := range e.Kids {
		kids = append(kids, NormalForm(kid))
	}
	empty, unit := Node(api.OpEmpty), Node(api.OpUnit)
	universal := Node(api.OpNot, empty)
	switch e.Op {
	case api.OpNot:
		if kids[0].Op == api.OpNot {
			return kids[0].Kids[0]
		}
	case api.OpStar:
		if kids[0].Op == api.OpEmpty || kids[0].Op == api.OpUnit {
			return unit
		}
		if kids[0].Op == api.OpStar || Same(kids[0], universal) {
			return kids[0]
		}
	case api.OpConcat:
		return joined(e.Op, kids, empty, unit)
	case api.OpUnion:
		return joined(e.Op, kids, universal, empty)
	case api.OpAnd:
		return joined(e.Op, kids, empty, universal)
	}
	return api.Expr{Op: e.Op, Letter: e.Letter, Kids: kids}
}

// joined follows the steps for a list of kids: all is the result if it is one of them, none is removed.
func joined(op int, kids []api.Expr, all, none api.Expr) api.Expr {
	var flat []api.Expr
	for _, kid := range kids {
		if kid.Op == op {
			flat = append(flat, kid.Kids...)
		} else {
			flat = append(flat, kid)
		}
	}
	if slices.ContainsFunc(flat, func(kid api.Expr) bool { return Same(kid, all) }) {
		return all
	}
	flat = slices.DeleteFunc(flat, func(kid api.Expr) bool { return Same(kid, none) })
	if op != api.OpConcat {
		slices.SortFunc(flat, expr.Compare)
		flat = slices.CompactFunc(flat, Same)
	}
	switch len(flat) {
	case 0:
		return none
	case 1:
		return flat[0]
	}
	return Node(op, flat...)
}
