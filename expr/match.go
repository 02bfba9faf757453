package expr

import (
	"semigroup/api"
	"semigroup/word"
)

// Match reports whether the word w is in the language of e.
func Match(e api.Expr, w string) bool {
	if !valid(e) || !word.Valid(w, api.MaxLetters) {
		return false
	}
	return has(factors(e, w)[0], len(w))
}

// factors returns the factors of w that are in the language of e. Unlike derivatives or automata of e, they
// take time and memory that are bounded by polynomials, whatever complements and intersections e contains.
func factors(e api.Expr, w string) spans {
	switch e.Op {
	case api.OpUnit:
		return emptyFactors(w)
	case api.OpLetter:
		return letterFactors(w, 'a'+byte(e.Letter))
	case api.OpUnion:
		return fold(e.Kids, w, spans.union)
	case api.OpConcat:
		return fold(e.Kids, w, spans.product)
	case api.OpAnd:
		return fold(e.Kids, w, spans.intersection)
	case api.OpStar:
		return factors(e.Kids[0], w).closure()
	case api.OpNot:
		return factors(e.Kids[0], w).complement()
	}
	return newSpans(len(w) + 1)
}

// fold combines the factors of the kids from left to right, so that few sets of factors are held at a time.
func fold(kids []api.Expr, w string, combine func(s, t spans) spans) spans {
	s := factors(kids[0], w)
	for _, kid := range kids[1:] {
		s = combine(s, factors(kid, w))
	}
	return s
}

// emptyFactors returns the empty factors of w, one at each position.
func emptyFactors(w string) spans {
	s := newSpans(len(w) + 1)
	for i := range len(w) + 1 {
		add(s[i], i)
	}
	return s
}

// letterFactors returns the factors of w that are the given letter.
func letterFactors(w string, letter byte) spans {
	s := newSpans(len(w) + 1)
	for i := range len(w) {
		if w[i] == letter {
			add(s[i], i+1)
		}
	}
	return s
}
