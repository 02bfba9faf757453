package expr

import (
	"strings"

	"semigroup/api"
)

// parser reads a text by the rules of the grammar, from the offset at on, where no blank stands.
type parser struct {
	text    string
	letters int
	at      int
}

// misfit is what the parser panics with: the offset of the first byte that does not fit.
type misfit int

// Parse parses an expression.
func Parse(s string, letters int) (e api.Expr, offset int, why api.Errno) {
	if !validLetters(letters) {
		return api.Expr{}, 0, api.ErrArg
	}
	if len(s) > api.MaxText {
		return api.Expr{}, 0, api.ErrLimit
	}
	defer func() {
		caught := recover()
		if caught == nil {
			return
		}
		if at, own := caught.(misfit); own {
			e, offset, why = api.Expr{}, int(at), api.ErrSyntax
			return
		}
		// No statement of the parser can panic otherwise; a fault of the parser must not reach the caller as a panic either.
		e, offset, why = api.Expr{}, 0, api.ErrLimit
	}()
	p := &parser{text: s, letters: letters}
	e = p.all()
	if !withinLimits(e) {
		return api.Expr{}, 0, api.ErrLimit
	}
	return e, 0, api.OK
}

// all reads the whole text.
func (p *parser) all() api.Expr {
	p.skipBlanks()
	e := p.union()
	if p.at < len(p.text) {
		p.refuse()
	}
	return e
}

func (p *parser) union() api.Expr {
	return list(api.OpUnion, p.and, p.bar)
}

func (p *parser) and() api.Expr {
	return list(api.OpAnd, p.cat, p.ampersand)
}

func (p *parser) cat() api.Expr {
	return list(api.OpConcat, p.unary, p.beginsUnary)
}

// list reads parts as long as there are more of them; a single part needs no node above it.
func list(op int, part func() api.Expr, more func() bool) api.Expr {
	kids := []api.Expr{part()}
	for more() {
		kids = append(kids, part())
	}
	if len(kids) == 1 {
		return kids[0]
	}
	return api.Expr{Op: op, Kids: kids}
}

func (p *parser) bar() bool {
	return p.accept('|')
}

func (p *parser) ampersand() bool {
	return p.accept('&')
}

// beginsUnary reports whether the next byte begins a further part of a concatenation.
func (p *parser) beginsUnary() bool {
	if p.at == len(p.text) {
		return false
	}
	_, letter := p.letter()
	return letter || strings.IndexByte("!01(", p.text[p.at]) >= 0
}

func (p *parser) unary() api.Expr {
	if p.accept('!') {
		return api.Expr{Op: api.OpNot, Kids: []api.Expr{p.unary()}}
	}
	return p.postfix()
}

func (p *parser) postfix() api.Expr {
	e := p.atom()
	for p.accept('*') {
		e = api.Expr{Op: api.OpStar, Kids: []api.Expr{e}}
	}
	return e
}

func (p *parser) atom() api.Expr {
	switch {
	case p.accept('0'):
		return api.Expr{Op: api.OpEmpty}
	case p.accept('1'):
		return api.Expr{Op: api.OpUnit}
	case p.accept('('):
		e := p.union()
		if !p.accept(')') {
			p.refuse()
		}
		return e
	}
	number, ok := p.letter()
	if !ok {
		p.refuse()
	}
	p.advance()
	return api.Expr{Op: api.OpLetter, Letter: number}
}

// letter returns the number of the letter at the present offset, and false if none is there.
func (p *parser) letter() (int, bool) {
	if p.at == len(p.text) {
		return 0, false
	}
	number := int(p.text[p.at]) - 'a'
	return number, number >= 0 && number < p.letters
}

// accept reads b if it is the next byte.
func (p *parser) accept(b byte) bool {
	if p.at == len(p.text) || p.text[p.at] != b {
		return false
	}
	p.advance()
	return true
}

// advance reads a byte and the blanks behind it.
func (p *parser) advance() {
	p.at++
	p.skipBlanks()
}

func (p *parser) skipBlanks() {
	for p.at < len(p.text) && p.text[p.at] == ' ' {
		p.at++
	}
}

// refuse stops the parser at a byte that does not fit, or at the end of a text that ends too early.
func (p *parser) refuse() {
	panic(misfit(p.at))
}
