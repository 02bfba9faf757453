package expr

import (
	"slices"

	"semigroup/api"
)

// Normal returns the normal form of e.
func Normal(e api.Expr) api.Expr {
	if !valid(e) {
		return api.Expr{}
	}
	return normal(e)
}

func normal(e api.Expr) api.Expr {
	if len(e.Kids) == 0 {
		return api.Expr{Op: e.Op, Letter: e.Letter}
	}
	kids := make([]api.Expr, len(e.Kids))
	for i := range len(e.Kids) {
		kids[i] = normal(e.Kids[i])
	}
	return Combine(e.Op, kids...)
}

// Combine returns the normal form of an operation on kids in normal form, whatever the size of the kids and of the result is.
// A list operation may have any number of kids; if an operation cannot have these kids, the zero expression is returned.
func Combine(op int, kids ...api.Expr) api.Expr {
	switch op {
	case api.OpConcat:
		return normalList(op, kids, empty(), unit())
	case api.OpUnion:
		return normalList(op, kids, universal(), empty())
	case api.OpAnd:
		return normalList(op, kids, empty(), universal())
	}
	switch {
	case op == api.OpNot && len(kids) == 1:
		return normalNot(kids[0])
	case op == api.OpStar && len(kids) == 1:
		return normalStar(kids[0])
	}
	return api.Expr{}
}

func empty() api.Expr {
	return api.Expr{Op: api.OpEmpty}
}

func unit() api.Expr {
	return api.Expr{Op: api.OpUnit}
}

// universal returns the expression of all words.
func universal() api.Expr {
	return api.Expr{Op: api.OpNot, Kids: []api.Expr{empty()}}
}

func equal(a, b api.Expr) bool {
	return Compare(a, b) == 0
}

func normalNot(kid api.Expr) api.Expr {
	if kid.Op == api.OpNot && len(kid.Kids) == 1 {
		return kid.Kids[0]
	}
	return api.Expr{Op: api.OpNot, Kids: []api.Expr{kid}}
}

func normalStar(kid api.Expr) api.Expr {
	switch {
	case kid.Op == api.OpEmpty || kid.Op == api.OpUnit:
		return unit()
	case kid.Op == api.OpStar || equal(kid, universal()):
		return kid
	}
	return api.Expr{Op: api.OpStar, Kids: []api.Expr{kid}}
}

// normalList returns the normal form of an operation on a list of normal kids.
// The kid absorbing decides the result alone; the kid neutral makes no difference to it.
func normalList(op int, kids []api.Expr, absorbing, neutral api.Expr) api.Expr {
	all := flat(op, kids)
	parts := all[:0]
	for _, kid := range all {
		if equal(kid, absorbing) {
			return absorbing
		}
		if !equal(kid, neutral) {
			parts = append(parts, kid)
		}
	}
	if op != api.OpConcat { // the only one of the three in which order and repetitions count
		slices.SortFunc(parts, Compare)
		parts = slices.CompactFunc(parts, equal)
	}
	switch len(parts) {
	case 0:
		return neutral
	case 1:
		return parts[0]
	}
	return api.Expr{Op: op, Kids: parts}
}

// flat replaces each kid with the given Op by its kids.
func flat(op int, kids []api.Expr) []api.Expr {
	parts := make([]api.Expr, 0, len(kids))
	for _, kid := range kids {
		if kid.Op == op {
			parts = append(parts, kid.Kids...)
		} else {
			parts = append(parts, kid)
		}
	}
	return parts
}
