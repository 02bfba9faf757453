package derive

import (
	"slices"

	"semigroup/api"
	"semigroup/expr"
)

// Start begins the computation of the automaton of e.
func Start(e api.Expr, letters int) (api.Derivation, api.Errno) {
	c, why := begin(e, letters)
	if why != api.OK {
		return api.Derivation{}, why
	}
	return c.state, api.OK
}

// Step processes some further expressions.
func Step(d api.Derivation, budget int) (api.Derivation, api.Errno) {
	c, why := resume(d)
	if why != api.OK {
		return api.Derivation{}, why
	}
	if budget < 0 {
		return api.Derivation{}, api.ErrArg
	}
	why = c.run(budget)
	if why != api.OK {
		return api.Derivation{}, why
	}
	return c.state, api.OK
}

// Validate checks a saved state.
func Validate(d api.Derivation) api.Errno {
	_, why := resume(d)
	return why
}

// Finished reports whether all expressions are processed.
func Finished(d api.Derivation) bool {
	c, why := resume(d)
	return why == api.OK && c.finished()
}

// Automaton returns the automaton of a finished computation.
func Automaton(d api.Derivation) (api.DFA, api.Errno) {
	c, why := resume(d)
	if why != api.OK {
		return api.DFA{}, why
	}
	if !c.finished() {
		return api.DFA{}, api.ErrBudget
	}
	return c.automaton(), api.OK
}

// Build computes the automaton at once.
func Build(e api.Expr, letters int) (api.DFA, api.Errno) {
	c, why := begin(e, letters)
	if why != api.OK {
		return api.DFA{}, why
	}
	why = c.run(api.MaxDFA)
	if why != api.OK {
		return api.DFA{}, why
	}
	return c.automaton(), api.OK
}

// computation is a saved state that is being continued.
type computation struct {
	state api.Derivation
	index map[string]int // the index of each expression, by its text
}

func begin(e api.Expr, letters int) (*computation, api.Errno) {
	why := expr.Validate(e, letters)
	if why != api.OK {
		return nil, why
	}
	c := &computation{api.Derivation{Letters: letters}, map[string]int{}}
	c.add(expr.Normal(e))
	return c, api.OK
}

// resume continues a saved state, or returns ErrProof. To be sure that the state is what it must be, it repeats
// the computation that led to it; nothing of the state gets into the continued one but through expr.Normal.
func resume(d api.Derivation) (*computation, api.Errno) {
	if len(d.Exprs) == 0 {
		return nil, api.ErrProof
	}
	c, why := begin(d.Exprs[0], d.Letters)
	if why != api.OK || c.run(d.Done) != api.OK || !equal(c.state, d) {
		return nil, api.ErrProof
	}
	return c, api.OK
}

// equal compares two states.
func equal(c, d api.Derivation) bool {
	return c.Letters == d.Letters && c.Done == d.Done &&
		slices.EqualFunc(c.Exprs, d.Exprs, equalExprs) &&
		slices.EqualFunc(c.Next, d.Next, slices.Equal[[]int])
}

func equalExprs(e, f api.Expr) bool {
	return expr.Compare(e, f) == 0
}

func (c *computation) finished() bool {
	return c.state.Done == len(c.state.Exprs)
}

// run processes budget expressions, or all that there are.
func (c *computation) run(budget int) api.Errno {
	for ; budget > 0 && !c.finished(); budget-- {
		why := c.process()
		if why != api.OK {
			return why
		}
	}
	return api.OK
}

// process adds the row of the first expression that has none yet. The expressions are a work list, to whose end new ones are added.
func (c *computation) process() api.Errno {
	row := make([]int, c.state.Letters)
	for letter := range row {
		d, why := ByLetter(c.state.Exprs[c.state.Done], letter)
		if why != api.OK {
			return why
		}
		row[letter], why = c.find(d)
		if why != api.OK {
			return why
		}
	}
	c.state.Next = append(c.state.Next, row)
	c.state.Done++
	return api.OK
}

// find returns the index of e, which is added if it is new.
func (c *computation) find(e api.Expr) (int, api.Errno) {
	i, ok := c.index[expr.Format(e)]
	if ok {
		return i, api.OK
	}
	if len(c.state.Exprs) == api.MaxDFA {
		return 0, api.ErrLimit
	}
	return c.add(e), api.OK
}

func (c *computation) add(e api.Expr) int {
	i := len(c.state.Exprs)
	c.state.Exprs = append(c.state.Exprs, e)
	c.index[expr.Format(e)] = i
	return i
}

func (c *computation) automaton() api.DFA {
	final := make([]bool, len(c.state.Exprs))
	for i, e := range c.state.Exprs {
		final[i] = expr.Nullable(e)
	}
	return api.DFA{Letters: c.state.Letters, Start: 0, Final: final, Next: c.state.Next}
}
