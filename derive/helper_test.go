package derive_test

import (
	"slices"

	"semigroup/api"
	"semigroup/expr"
	"semigroup/tree"
)

// table is the table of P5.1, before the normal form.
func table(e api.Expr, letter int) api.Expr {
	var kids []api.Expr
	for _, kid := range e.Kids {
		kids = append(kids, table(kid, letter))
	}
	switch e.Op {
	case api.OpLetter:
		if e.Letter == letter {
			return tree.Node(api.OpUnit)
		}
	case api.OpUnion, api.OpAnd, api.OpNot:
		return tree.Node(e.Op, kids...)
	case api.OpStar:
		return tree.Node(api.OpConcat, kids[0], e)
	case api.OpConcat:
		var parts []api.Expr
		for i := range kids {
			if !slices.ContainsFunc(e.Kids[:i], func(kid api.Expr) bool { return !tree.Belongs(kid, "") }) {
				parts = append(parts, several(api.OpConcat, append([]api.Expr{kids[i]}, e.Kids[i+1:]...)))
			}
		}
		return several(api.OpUnion, parts)
	}
	return tree.Node(api.OpEmpty)
}

// several makes a node of one or more kids; one kid stands for itself.
func several(op int, kids []api.Expr) api.Expr {
	if len(kids) == 1 {
		return kids[0]
	}
	return tree.Node(op, kids...)
}

// size counts the nodes of a tree of any size, and the depth.
func size(e api.Expr) (nodes, depth int) {
	for _, kid := range e.Kids {
		n, d := size(kid)
		nodes += n
		depth = max(depth, d)
	}
	return nodes + 1, depth + 1
}

func large(e api.Expr) bool {
	nodes, depth := size(e)
	return nodes > api.MaxNodes || depth > api.MaxDepth
}

// byLetter is P5.1 for a valid expression and a letter.
func byLetter(e api.Expr, letter int) (api.Expr, api.Errno) {
	d := tree.NormalForm(table(e, letter))
	if large(d) {
		return api.Expr{}, api.ErrLimit
	}
	return d, api.OK
}

// states lists the states of the computation for a valid expression, from the first one, and what ends it: OK or ErrLimit.
func states(e api.Expr, letters int) ([]api.Derivation, api.Errno) {
	d := api.Derivation{Letters: letters, Exprs: []api.Expr{tree.NormalForm(e)}}
	list := []api.Derivation{d}
	for d.Done < len(d.Exprs) {
		var row []int
		for letter := range letters {
			x, why := byLetter(d.Exprs[d.Done], letter)
			if why != api.OK {
				return list, why
			}
			at := slices.IndexFunc(d.Exprs, func(y api.Expr) bool { return tree.Same(x, y) })
			if at < 0 {
				at = len(d.Exprs)
				d.Exprs = append(slices.Clip(d.Exprs), x)
			}
			if at == api.MaxDFA {
				return list, api.ErrLimit
			}
			row = append(row, at)
		}
		d.Next = append(slices.Clip(d.Next), row)
		d.Done++
		list = append(list, d)
	}
	return list, api.OK
}

// sameState compares two states, field by field.
func sameState(c, d api.Derivation) bool {
	return c.Letters == d.Letters && slices.EqualFunc(c.Exprs, d.Exprs, tree.Same) && slices.EqualFunc(c.Next, d.Next, slices.Equal[[]int]) && c.Done == d.Done
}

// automaton is P5.4 for a finished state.
func automaton(d api.Derivation) api.DFA {
	a := api.DFA{Letters: d.Letters, Next: d.Next}
	for _, e := range d.Exprs {
		a.Final = append(a.Final, tree.Belongs(e, ""))
	}
	return a
}

// texts writes expressions for messages.
func texts(list []api.Expr) []string {
	var all []string
	for _, e := range list {
		all = append(all, expr.Format(e))
	}
	return all
}

// plain lists expressions over two letters: all of at most 4 nodes, and some larger ones.
func plain() []api.Expr {
	list := tree.Small(4)
	for i := range 300 {
		s := tree.Source(i)
		list = append(list, s.Tree(6+i/20, 8, 2, tree.AllOps()))
	}
	return list
}
