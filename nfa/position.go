package nfa

import (
	"semigroup/api"
	"semigroup/expr"
	"semigroup/relation"
)

// Position returns the position automaton of an expression.
func Position(e api.Expr, letters int) (api.NFA, api.Errno) {
	why := validate(e, letters)
	if why != api.OK {
		return api.NFA{}, why
	}
	states := 1 + letterNodes(e)
	if states > api.MaxNFA {
		return api.NFA{}, api.ErrLimit
	}
	p := &positions{nodes: make([]uint64, letters), follow: make([]uint64, 1, states)}
	// State 0 behaves like a letter node in front of e.
	whole := p.concat(part{last: 1}, p.visit(e))
	return build(p.table(), whole.last), api.OK
}

// validate returns the first error of an expression that is to become an automaton, but for the number of the states.
func validate(e api.Expr, letters int) api.Errno {
	why := expr.Validate(e, letters)
	if why == api.OK && !plain(e) {
		return api.ErrShape
	}
	return why
}

// plain reports whether e has neither complements nor intersections.
func plain(e api.Expr) bool {
	for i := range len(e.Kids) {
		if !plain(e.Kids[i]) {
			return false
		}
	}
	return e.Op != api.OpAnd && e.Op != api.OpNot
}

// letterNodes counts the letter nodes of e.
func letterNodes(e api.Expr) int {
	if e.Op == api.OpLetter {
		return 1
	}
	count := 0
	for i := range len(e.Kids) {
		count += letterNodes(e.Kids[i])
	}
	return count
}

// positions is what is known of the letter nodes that have been visited.
type positions struct {
	nodes  []uint64 // for each letter its nodes
	follow []uint64 // for each node those that follow it
}

// part is what matters of a node of an expression for the nodes beside it and above it.
type part struct {
	first, last uint64
	nullable    bool
}

// visit numbers the letter nodes of e from left to right.
func (p *positions) visit(e api.Expr) part {
	switch e.Op {
	case api.OpUnit:
		return part{nullable: true}
	case api.OpLetter:
		return p.letter(e.Letter)
	case api.OpUnion:
		return p.union(e.Kids)
	case api.OpConcat:
		return p.list(e.Kids)
	case api.OpStar:
		kid := p.visit(e.Kids[0])
		p.connect(kid.last, kid.first)
		return part{kid.first, kid.last, true}
	}
	return part{}
}

// letter adds a node.
func (p *positions) letter(letter int) part {
	var node uint64 = 1 << len(p.follow)
	p.nodes[letter] |= node
	p.follow = append(p.follow, 0)
	return part{first: node, last: node}
}

func (p *positions) union(kids []api.Expr) part {
	var whole part
	for i := range len(kids) {
		kid := p.visit(kids[i])
		whole = part{whole.first | kid.first, whole.last | kid.last, whole.nullable || kid.nullable}
	}
	return whole
}

// list visits the kids of a concatenation.
func (p *positions) list(kids []api.Expr) part {
	whole := part{nullable: true}
	for i := range len(kids) {
		whole = p.concat(whole, p.visit(kids[i]))
	}
	return whole
}

// concat puts one part behind another one.
func (p *positions) concat(x, y part) part {
	p.connect(x.last, y.first)
	whole := part{x.first, y.last, x.nullable && y.nullable}
	if x.nullable {
		whole.first |= y.first
	}
	if y.nullable {
		whole.last |= x.last
	}
	return whole
}

// connect makes all nodes of next follow those of nodes.
func (p *positions) connect(nodes, next uint64) {
	for _, node := range relation.Members(nodes) {
		p.follow[node] |= next
	}
}

// table returns for each state and each letter the states that follow with the letter.
func (p *positions) table() [][]uint64 {
	table := make([][]uint64, len(p.follow))
	for i := range table {
		table[i] = make([]uint64, len(p.nodes))
		for letter, nodes := range p.nodes {
			table[i][letter] = p.follow[i] & nodes
		}
	}
	return table
}

// build returns the automaton with the start state 0 in which edges lead from each state, with each letter, to the states of a set.
func build(table [][]uint64, final uint64) api.NFA {
	n := api.NFA{Letters: len(table[0]), States: len(table), Start: 1, Final: final}
	for from, row := range table {
		for letter, set := range row {
			for _, to := range relation.Members(set) {
				n.Edges = append(n.Edges, api.Edge{From: from, Letter: letter, To: to})
			}
		}
	}
	return n
}
