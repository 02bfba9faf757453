package expr_test

import (
	"math"
	"slices"
	"testing"

	"semigroup/api"
	"semigroup/expr"
)

// TestValidateLetters: P4.1, numbers of letters and letters.
func TestValidateLetters(t *testing.T) {
	for letters := -2; letters <= api.MaxLetters+2; letters++ {
		for number := -2; number <= api.MaxLetters+2; number++ {
			want := api.OK
			if letters < 1 || letters > api.MaxLetters {
				want = api.ErrArg
			} else if number < 0 || number >= letters {
				want = api.ErrShape
			}
			for _, e := range []api.Expr{letter(number), node(api.OpNot, node(api.OpUnion, node(api.OpUnit), letter(number)))} {
				if why := expr.Validate(e, letters); why != want {
					t.Errorf("%v over %d letters: %d, want %d", e, letters, why, want)
				}
			}
		}
	}
	for _, letters := range []int{math.MinInt, math.MaxInt, 1 << 32, 1<<32 + 1} {
		if why := expr.Validate(letter(0), letters); why != api.ErrArg {
			t.Errorf("%d letters: %d", letters, why)
		}
	}
}

// TestValidateShape: P4.1, all kinds of nodes, alone and as the last kid of a deep node.
func TestValidateShape(t *testing.T) {
	kids := map[int][]int{
		api.OpEmpty: {0}, api.OpUnit: {0}, api.OpLetter: {0}, api.OpStar: {1}, api.OpNot: {1},
		api.OpUnion: {2, 3, 4}, api.OpConcat: {2, 3, 4}, api.OpAnd: {2, 3, 4},
	}
	for op := -3; op <= 12; op++ {
		for n := range 5 {
			for number := -1; number <= 2; number++ {
				want := api.ErrShape
				if slices.Contains(kids[op], n) && (number == 0 || number == 1 && op == api.OpLetter) {
					want = api.OK
				}
				e := row(op, n)
				e.Letter = number
				for i, x := range []api.Expr{e, node(api.OpUnion, letter(1), node(api.OpConcat, letter(0), chain(api.OpNot, 30, e)))} {
					if why := expr.Validate(x, 2); why != want {
						t.Errorf("Op %d, %d kids, letter %d, place %d: %d, want %d", op, n, number, i, why, want)
					}
				}
			}
		}
	}
	for _, e := range invalid() {
		if why := expr.Validate(e, api.MaxLetters); why == api.OK {
			t.Errorf("valid: %v", e)
		}
	}
}

// TestValidateLimits: P4.1, the greatest number of nodes and depth, and one more.
func TestValidateLimits(t *testing.T) {
	a := letter(0)
	wrong := api.Expr{Op: 9, Letter: 8}
	shared := a
	for range 30 {
		shared = node(api.OpUnion, shared, shared)
	}
	for i, c := range []struct {
		e    api.Expr
		want api.Errno
	}{
		{row(api.OpUnion, api.MaxNodes-1), api.OK},
		{row(api.OpUnion, api.MaxNodes), api.ErrLimit},
		{node(api.OpAnd, row(api.OpConcat, 198), row(api.OpUnion, 199)), api.OK},
		{node(api.OpAnd, row(api.OpConcat, 199), row(api.OpUnion, 199)), api.ErrLimit},
		{node(api.OpAnd, row(api.OpConcat, 198), row(api.OpUnion, 199), a), api.ErrLimit},
		{node(api.OpAnd, row(api.OpConcat, 198), row(api.OpUnion, 198), wrong), api.ErrShape},
		{row(api.OpUnit, api.MaxNodes-1), api.ErrShape},
		{row(api.OpUnit, api.MaxNodes), api.ErrLimit},
		{row(9, api.MaxNodes), api.ErrLimit},
		{row(api.OpUnit, 1<<20), api.ErrLimit},
		{chain(api.OpStar, api.MaxDepth-1, a), api.OK},
		{chain(api.OpStar, api.MaxDepth, a), api.ErrLimit},
		{chain(api.OpStar, api.MaxDepth-1, wrong), api.ErrShape},
		{chain(api.OpStar, api.MaxDepth, wrong), api.ErrLimit},
		{chain(9, api.MaxDepth, a), api.ErrLimit},
		{node(api.OpUnion, chain(api.OpNot, api.MaxDepth-2, a), chain(api.OpNot, api.MaxDepth-2, a)), api.OK},
		{node(api.OpUnion, a, chain(api.OpNot, api.MaxDepth-1, a)), api.ErrLimit},
		{node(api.OpUnion, chain(api.OpNot, api.MaxDepth-1, a), a), api.ErrLimit},
		{node(api.OpUnion, wrong, chain(api.OpNot, api.MaxDepth-1, a)), api.ErrLimit},
		{chain(api.OpStar, 1<<12-1, a), api.ErrLimit},
		{shared, api.ErrLimit},
	} {
		if why := expr.Validate(c.e, 1); why != c.want {
			t.Errorf("case %d: %d, want %d", i, why, c.want)
		}
		for _, letters := range []int{0, api.MaxLetters + 1} {
			if why := expr.Validate(c.e, letters); why != api.ErrArg {
				t.Errorf("case %d over %d letters: %d", i, letters, why)
			}
		}
	}
}

// measures are the results of P4.2.
type measures struct {
	size, depth, height int
	starFree, nullable  bool
}

func measured(e api.Expr) measures {
	return measures{expr.Size(e), expr.Depth(e), expr.StarHeight(e), expr.StarFree(e), expr.Nullable(e)}
}

// paths calls visit with the Ops of each path from the root of e to a node.
func paths(e api.Expr, above []int, visit func(path []int)) {
	path := append(above[:len(above):len(above)], e.Op)
	visit(path)
	for _, kid := range e.Kids {
		paths(kid, path, visit)
	}
}

// TestMeasures: P4.2, against the definitions by the paths of a tree.
func TestMeasures(t *testing.T) {
	limits := []api.Expr{row(api.OpUnion, api.MaxNodes-1), chain(api.OpStar, api.MaxDepth-1, letter(0)), chain(api.OpNot, api.MaxDepth-1, letter(5))}
	for _, e := range slices.Concat(small(5), scattered(200), limits) {
		want := measures{starFree: true, nullable: belongs(e, "")}
		paths(e, nil, func(path []int) {
			stars := 0
			for _, op := range path {
				if op == api.OpStar {
					stars++
				}
			}
			want.size++
			want.depth = max(want.depth, len(path))
			want.height = max(want.height, stars)
			want.starFree = want.starFree && stars == 0
		})
		if got := measured(e); got != want {
			t.Fatalf("%s: %v, want %v", expr.Format(e), got, want)
		}
	}
	for _, e := range invalid() {
		if got := measured(e); got != (measures{}) {
			t.Errorf("%v: %v", e, got)
		}
	}
}

// TestMeasuresByHand: P4.2, small trees.
func TestMeasuresByHand(t *testing.T) {
	for s, want := range map[string]measures{
		"0": {1, 1, 0, true, false}, "1": {1, 1, 0, true, true}, "a": {1, 1, 0, true, false},
		"a*": {2, 2, 1, false, true}, "a**": {3, 3, 2, false, true}, "!a": {2, 2, 0, true, true}, "!1": {2, 2, 0, true, false},
		"ab|c": {5, 3, 0, true, false}, "(a*b)*|c*": {8, 5, 2, false, true}, "a*|!b*": {6, 4, 1, false, true}, "!(b*)c*": {6, 4, 1, false, false},
		"1&a*": {4, 3, 1, false, true}, "a&1": {3, 2, 0, true, false}, "a|1": {3, 2, 0, true, true}, "a1": {3, 2, 0, true, false}, "1(1|a)": {5, 3, 0, true, true},
	} {
		if got := measured(parse(t, s)); got != want {
			t.Errorf("%s: %v, want %v", s, got, want)
		}
	}
}

// key lists the numbers of a tree so that the lexicographic order of the lists is the order of P4.6.
func key(e api.Expr) []int {
	list := []int{1, e.Op, e.Letter}
	for _, kid := range e.Kids {
		list = append(list, key(kid)...)
	}
	return append(list, 0) // the end of the kids is before each kid
}

// TestCompare: P4.6, valid and other trees.
func TestCompare(t *testing.T) {
	list := slices.Concat(small(3), invalid(), scattered(20))
	for _, number := range []int{math.MinInt, math.MaxInt, -1, 0, 1} {
		list = append(list, api.Expr{Op: number}, letter(number), node(number, letter(number)), api.Expr{Op: api.OpUnion, Letter: number, Kids: []api.Expr{letter(0), letter(1)}})
	}
	for i, a := range small(5) {
		if i%97 == 0 {
			list = append(list, a)
		}
	}
	keys := make([][]int, len(list))
	for i := range list {
		keys[i] = key(list[i])
	}
	for i, a := range list {
		for j, b := range list {
			if got, want := expr.Compare(a, b), slices.Compare(keys[i], keys[j]); got != want {
				t.Fatalf("%v, %v: %d, want %d", a, b, got, want)
			}
		}
	}
}

// TestCompareByHand: P4.6, Op before Letter before kids, and lists of kids.
func TestCompareByHand(t *testing.T) {
	a, b := letter(0), letter(1)
	for i, c := range []struct {
		less, greater api.Expr
	}{
		{node(api.OpEmpty), node(api.OpUnit)},
		{api.Expr{Op: api.OpEmpty, Letter: 9}, node(api.OpUnit)},
		{api.Expr{Op: api.OpUnion, Kids: []api.Expr{b, b}}, api.Expr{Op: api.OpUnion, Letter: 1, Kids: []api.Expr{a}}},
		{a, b},
		{letter(5), node(api.OpUnion)},
		{node(api.OpUnion, b, b), node(api.OpConcat, a, a)},
		{node(api.OpConcat, a, b), node(api.OpConcat, a, b, a)},
		{node(api.OpConcat, a, b, b), node(api.OpConcat, b, a)},
		{node(api.OpConcat, a, node(api.OpStar, a)), node(api.OpConcat, a, node(api.OpNot, a))},
		{node(api.OpStar), node(api.OpStar, api.Expr{Op: math.MinInt})},
		{letter(math.MinInt), letter(math.MaxInt)},
		{api.Expr{Op: math.MinInt}, api.Expr{Op: math.MaxInt}},
		{chain(api.OpStar, 1<<12-1, a), chain(api.OpStar, 1<<12-1, b)},
		{row(api.OpUnion, 1<<16), row(api.OpUnion, 1<<16+1)},
	} {
		if x, y := expr.Compare(c.less, c.greater), expr.Compare(c.greater, c.less); x != -1 || y != 1 {
			t.Errorf("case %d: %d and %d", i, x, y)
		}
		if x, y := expr.Compare(c.less, clone(c.less)), expr.Compare(clone(c.greater), c.greater); x != 0 || y != 0 {
			t.Errorf("case %d, with itself: %d and %d", i, x, y)
		}
	}
	if x := expr.Compare(node(api.OpUnit), api.Expr{Op: api.OpUnit, Kids: []api.Expr{}}); x != 0 {
		t.Error("nil and no kids:", x)
	}
}

// TestArguments: R3 and R4, for all functions that take an expression.
func TestArguments(t *testing.T) {
	for _, plain := range slices.Concat(small(4), scattered(60), invalid()) {
		e := spare(plain)
		before := clone(e)
		for range 2 {
			if why := expr.Validate(e, 2); why != expr.Validate(plain, 2) {
				t.Fatal("Validate", e, why)
			}
			if measured(e) != measured(plain) || expr.Format(e) != expr.Format(plain) || expr.Match(e, "ab") != expr.Match(plain, "ab") || expr.Compare(e, plain) != 0 {
				t.Fatal("not the same results:", e)
			}
			normal := expr.Normal(e)
			if !same(normal, expr.Normal(plain)) {
				t.Fatal("Normal", e)
			}
			scribble(normal)
		}
		if !untouched(e, before) {
			t.Fatal("an argument was modified:", before)
		}
	}
}

// scribble writes over a tree.
func scribble(e api.Expr) {
	kids := e.Kids[:cap(e.Kids)]
	for i := range kids {
		scribble(kids[i])
		kids[i] = api.Expr{Op: 99}
	}
}
