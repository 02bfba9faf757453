package tree

import (
	"slices"

	"semigroup/api"
)

// sums calls visit with each list of at least two positive numbers with the given sum.
func sums(sum int, visit func(list []int)) {
	var extend func(begin []int, rest int)
	extend = func(begin []int, rest int) {
		if rest == 0 && len(begin) > 1 {
			visit(begin)
		}
		for x := 1; x <= rest; x++ {
			extend(append(begin[:len(begin):len(begin)], x), rest-x)
		}
	}
	extend(nil, sum)
}

// choices calls visit with each list that takes one element from each of the given lists.
func choices(lists [][]api.Expr, visit func(kids []api.Expr)) {
	var extend func(begin []api.Expr)
	extend = func(begin []api.Expr) {
		if len(begin) == len(lists) {
			visit(begin)
			return
		}
		for _, e := range lists[len(begin)] {
			extend(append(begin[:len(begin):len(begin)], e))
		}
	}
	extend(nil)
}

// Small lists all expressions over two letters with at most size nodes.
func Small(size int) []api.Expr {
	ofSize := make([][]api.Expr, size+1)
	ofSize[1] = []api.Expr{Node(api.OpEmpty), Node(api.OpUnit), Letter(0), Letter(1)}
	for n := 2; n <= size; n++ {
		for _, kid := range ofSize[n-1] {
			ofSize[n] = append(ofSize[n], Node(api.OpStar, kid), Node(api.OpNot, kid))
		}
		sums(n-1, func(sizes []int) {
			var lists [][]api.Expr
			for _, x := range sizes {
				lists = append(lists, ofSize[x])
			}
			choices(lists, func(kids []api.Expr) {
				ofSize[n] = append(ofSize[n], Node(api.OpUnion, kids...), Node(api.OpConcat, kids...), Node(api.OpAnd, kids...))
			})
		})
	}
	return slices.Concat(ofSize...)
}

// Invalid lists trees that are no valid expressions; many of them would have results other than zero.
func Invalid() []api.Expr {
	a := Letter(0)
	wrong := []api.Expr{
		{}, {Op: -1}, {Op: 9}, {Op: 1 << 40}, {Letter: 1}, Node(0, a), Node(9, a, a),
		Node(api.OpEmpty, a), Node(api.OpUnit, a), Node(api.OpUnit, a, a), {Op: api.OpLetter, Kids: []api.Expr{a}},
		Node(api.OpUnion), Node(api.OpUnion, Node(api.OpUnit)), Node(api.OpConcat), Node(api.OpConcat, Node(api.OpUnit)),
		Node(api.OpAnd), Node(api.OpAnd, Node(api.OpUnit)),
		Node(api.OpStar), Node(api.OpStar, a, a), Node(api.OpNot), Node(api.OpNot, a, a),
		Letter(-1), Letter(api.MaxLetters), Letter(1 << 40),
		{Op: api.OpEmpty, Letter: 1}, {Op: api.OpUnit, Letter: 1}, {Op: api.OpUnit, Letter: -1},
		{Op: api.OpUnion, Letter: 1, Kids: []api.Expr{a, Node(api.OpUnit)}}, {Op: api.OpConcat, Letter: 1, Kids: []api.Expr{a, a}},
		{Op: api.OpAnd, Letter: 1, Kids: []api.Expr{a, a}}, {Op: api.OpStar, Letter: 1, Kids: []api.Expr{a}}, {Op: api.OpNot, Letter: 1, Kids: []api.Expr{a}},
		Row(api.OpUnion, api.MaxNodes), Row(api.OpConcat, api.MaxNodes), Node(api.OpStar, Row(api.OpUnion, api.MaxNodes-1)),
		Chain(api.OpStar, api.MaxDepth, a), Chain(api.OpNot, api.MaxDepth, a),
	}
	for _, e := range wrong[:11] {
		wrong = append(wrong, Node(api.OpStar, e), Node(api.OpUnion, Node(api.OpUnit), a, e), Node(api.OpNot, Node(api.OpConcat, a, Node(api.OpNot, e))))
	}
	return wrong
}

// Words lists the words over the first letters of length at most n, in shortlex order.
func Words(letters, n int) []string {
	list := []string{""}
	for i := 0; len(list[i]) < n; i++ {
		for letter := range letters {
			list = append(list, list[i]+string(rune('a'+letter)))
		}
	}
	return list
}
