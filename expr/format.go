package expr

import "semigroup/api"

// Levels of the kinds of nodes: the greater, the closer they bind in a text.
const (
	levelUnion = 1 + iota
	levelAnd
	levelConcat
	levelNot
	levelStar
	levelAtom
)

func level(op int) int {
	switch op {
	case api.OpUnion:
		return levelUnion
	case api.OpAnd:
		return levelAnd
	case api.OpConcat:
		return levelConcat
	case api.OpNot:
		return levelNot
	case api.OpStar:
		return levelStar
	}
	return levelAtom
}

// Format returns the text of an expression.
func Format(e api.Expr) string {
	if !valid(e) {
		return ""
	}
	return string(appendText(nil, e))
}

// appendText appends the text of a valid expression.
func appendText(text []byte, e api.Expr) []byte {
	switch e.Op {
	case api.OpEmpty:
		return append(text, '0')
	case api.OpUnit:
		return append(text, '1')
	case api.OpLetter:
		return append(text, 'a'+byte(e.Letter))
	case api.OpUnion:
		return appendList(text, e.Kids, "|", levelAnd)
	case api.OpAnd:
		return appendList(text, e.Kids, "&", levelConcat)
	case api.OpConcat:
		return appendList(text, e.Kids, "", levelNot)
	case api.OpNot:
		return appendKid(append(text, '!'), e.Kids[0], levelNot)
	}
	return append(appendKid(text, e.Kids[0], levelStar), '*')
}

// appendList appends the texts of kids with a separator between them.
func appendList(text []byte, kids []api.Expr, separator string, least int) []byte {
	for i := range len(kids) {
		if i > 0 {
			text = append(text, separator...)
		}
		text = appendKid(text, kids[i], least)
	}
	return text
}

// appendKid appends the text of a kid, in parentheses if its level is less than least.
func appendKid(text []byte, kid api.Expr, least int) []byte {
	if level(kid.Op) >= least {
		return appendText(text, kid)
	}
	return append(appendText(append(text, '('), kid), ')')
}
