package expr_test

import (
	"math"
	"slices"
	"testing"

	"semigroup/api"
	"semigroup/expr"
	"semigroup/tree"
)

// TestValidateLetters: P4.1, numbers of letters and letters.
func TestValidateLetters(t *testing.T) {
	for letters := -2; letters <= api.MaxLetters+2; letters++ {
		for number := -2; number <= api.MaxLetters+2; number++ {
			want := api.OK
			if letters < 1 || letters > api.MaxLetters {
				want = api.ErrArg
			} else if number < 0 || number >= letters {
				want = api.ErrShape
			}
			for _, e := range []api.Expr{tree.Letter(number), tree.Node(api.OpNot, tree.Node(api.OpUnion, tree.Node(api.OpUnit), tree.Letter(number)))} {
				if why := expr.Validate(e, letters); why != want {
					t.Errorf("%v over %d letters: %d, want %d", e, letters, why, want)
				}
			}
		}
	}
	for _, letters := range []int{math.MinInt, math.MaxInt, 1 << 32, 1<<32 + 1} {
		if why := expr.Validate(tree.Letter(0), letters); why != api.ErrArg {
			t.Errorf("%d letters: %d", letters, why)
		}
	}
}

// TestValidateShape: P4.1, all kinds of nodes, alone and as the last kid of a deep node.
func TestValidateShape(t *testing.T) {
	kids := map[int][]int{
		api.OpEmpty: {0}, api.OpUnit: {0}, api.OpLetter: {0}, api.OpStar: {1}, api.OpNot: {1},
		api.OpUnion: {2, 3, 4}, api.OpConcat: {2, 3, 4}, api.OpAnd: {2, 3, 4},
	}
	for op := -3; op <= 12; op++ {
		for n := range 5 {
			for number := -1; number <= 2; number++ {
				want := api.ErrShape
				if slices.Contains(kids[op], n) && (number == 0 || number == 1 && op == api.OpLetter) {
					want = api.OK
				}
				e := tree.Row(op, n)
				e.Letter = number
				for i, x := range []api.Expr{e, tree.Node(api.OpUnion, tree.Letter(1), tree.Node(api.OpConcat, tree.Letter(0), tree.Chain(api.OpNot, 30, e)))} {
					if why := expr.Validate(x, 2); why != want {
						t.Errorf("Op %d, %d kids, letter %d, place %d: %d, want %d", op, n, number, i, why, want)
					}
				}
			}
		}
	}
	for _, e := range tree.Invalid() {
		if why := expr.Validate(e, api.MaxLetters); why == api.OK {
			t.Errorf("valid: %v", e)
		}
	}
}

// TestValidateLimits: P4.1, the greatest number of nodes and depth, and one more.
func TestValidateLimits(t *testing.T) {
	a := tree.Letter(0)
	wrong := api.Expr{Op: 9, Letter: 8}
	shared := a
	for range 30 {
		shared = tree.Node(api.OpUnion, shared, shared)
	}
	for i, c := range []struct {
		e    api.Expr
		want api.Errno
	}{
		{tree.Row(api.OpUnion, api.MaxNodes-1), api.OK},
		{tree.Row(api.OpUnion, api.MaxNodes), api.ErrLimit},
		{tree.Node(api.OpAnd, tree.Row(api.OpConcat, 198), tree.Row(api.OpUnion, 199)), api.OK},
		{tree.Node(api.OpAnd, tree.Row(api.OpConcat, 199), tree.Row(api.OpUnion, 199)), api.ErrLimit},
		{tree.Node(api.OpAnd, tree.Row(api.OpConcat, 198), tree.Row(api.OpUnion, 199), a), api.ErrLimit},
		{tree.Node(api.OpAnd, tree.Row(api.OpConcat, 198), tree.Row(api.OpUnion, 198), wrong), api.ErrShape},
		{tree.Row(api.OpUnit, api.MaxNodes-1), api.ErrShape},
		{tree.Row(api.OpUnit, api.MaxNodes), api.ErrLimit},
		{tree.Row(9, api.MaxNodes), api.ErrLimit},
		{tree.Row(api.OpUnit, 1<<20), api.ErrLimit},
		{tree.Chain(api.OpStar, api.MaxDepth-1, a), api.OK},
		{tree.Chain(api.OpStar, api.MaxDepth, a), api.ErrLimit},
		{tree.Chain(api.OpStar, api.MaxDepth-1, wrong), api.ErrShape},
		{tree.Chain(api.OpStar, api.MaxDepth, wrong), api.ErrLimit},
		{tree.Chain(9, api.MaxDepth, a), api.ErrLimit},
		{tree.Node(api.OpUnion, tree.Chain(api.OpNot, api.MaxDepth-2, a), tree.Chain(api.OpNot, api.MaxDepth-2, a)), api.OK},
		{tree.Node(api.OpUnion, a, tree.Chain(api.OpNot, api.MaxDepth-1, a)), api.ErrLimit},
		{tree.Node(api.OpUnion, tree.Chain(api.OpNot, api.MaxDepth-1, a), a), api.ErrLimit},
		{tree.Node(api.OpUnion, wrong, tree.Chain(api.OpNot, api.MaxDepth-1, a)), api.ErrLimit},
		{tree.Chain(api.OpStar, 1<<12-1, a), api.ErrLimit},
		{shared, api.ErrLimit},
	} {
		if why := expr.Validate(c.e, 1); why != c.want {
			t.Errorf("case %d: %d, want %d", i, why, c.want)
		}
		for _, letters := range []int{0, api.MaxLetters + 1} {
			if why := expr.Validate(c.e, letters); why != api.ErrArg {
				t.Errorf("case %d over %d letters: %d", i, letters, why)
			}
		}
	}
}

// measures are the results of P4.2.
type measures struct {
	size, depth, height int
	starFree, nullable  bool
}

func measured(e api.Expr) measures {
	return measures{expr.Size(e), expr.Depth(e), expr.StarHeight(e), expr.StarFree(e), expr.Nullable(e)}
}

// paths calls visit with the Ops of each path from the root of e to a node.
func paths(e api.Expr, above []int, visit func(path []int)) {
	path := append(above[:len(above):len(above)], e.Op)
	visit(path)
	for _, kid := range e.Kids {
		paths(kid, path, visit)
	}
}

// TestMeasures: P4.2, against the definitions by the paths of a tree.
func TestMeasures(t *testing.T) {
	limits := []api.Expr{tree.Row(api.OpUnion, api.MaxNodes-1), tree.Chain(api.OpStar, api.MaxDepth-1, tree.Letter(0)), tree.Chain(api.OpNot, api.MaxDepth-1, tree.Letter(5))}
	for _, e := range slices.Concat(tree.Small(5), tree.Scattered(200), limits) {
		want := measures{starFree: true, nullable: tree.Belongs(e, "")}
		paths(e, nil, func(path []int) {
			stars := 0
			for _, op := range path {
				if op == api.OpStar {
					stars++
				}
			}
			want.size++
			want.depth = max(want.depth, len(path))
			want.height = max(want.height, stars)
			want.starFree = want.starFree && stars == 0
		})
		if got := measured(e); got != want {
			t.Fatalf("%s: %v, want %v", expr.Format(e), got, want)
		}
	}
	for _, e := range tree.Invalid() {
		if got := measured(e); got != (measures{}) {
			t.Errorf("%v: %v", e, got)
		}
	}
}

// TestMeasuresByHand: P4.2, small trees.
func TestMeasuresByHand(t *testing.T) {
	for s, want := range map[string]measures{
		"0": {1, 1, 0, true, false}, "1": {1, 1, 0, true, true}, "a": {1, 1, 0, true, false},
		"a*": {2, 2, 1, false, true}, "a**": {3, 3, 2, false, true}, "!a": {2, 2, 0, true, true}, "!1": {2, 2, 0, true, false},
		"ab|c": {5, 3, 0, true, false}, "(a*b)*|c*": {8, 5, 2, false, true}, "a*|!b*": {6, 4, 1, false, true}, "!(b*)c*": {6, 4, 1, false, false},
		"1&a*": {4, 3, 1, false, true}, "a&1": {3, 2, 0, true, false}, "a|1": {3, 2, 0, true, true}, "a1": {3, 2, 0, true, false}, "1(1|a)": {5, 3, 0, true, true},
	} {
		if got := measured(tree.Parse(s)); got != want {
			t.Errorf("%s: %v, want %v", s, got, want)
		}
	}
}

// key lists the numbers of a tree so that the lexicographic order of the lists is the order of P4.6.
func key(e api.Expr) []int {
	list := []int{1, e.Op, e.Letter}
	for _, kid := range e.Kids {
		list = append(list, key(kid)...)
	}
	return append(list, 0) // the end of the kids is before each kid
}

// TestCompare: P4.6, valid and other trees.
func TestCompare(t *testing.T) {
	list := slices.Concat(tree.Small(3), tree.Invalid(), tree.Scattered(20))
	for _, number := range []int{math.MinInt, math.MaxInt, -1, 0, 1} {
		list = append(list, api.Expr{Op: number}, tree.Letter(number), tree.Node(number, tree.Letter(number)), api.Expr{Op: api.OpUnion, Letter: number, Kids: []api.Expr{tree.Letter(0), tree.Letter(1)}})
	}
	for i, a := range tree.Small(5) {
		if i%97 == 0 {
			list = append(list, a)
		}
	}
	keys := make([][]int, len(list))
	for i := range list {
		keys[i] = key(list[i])
	}
	for i, a := range list {
		for j, b := range list {
			if got, want := expr.Compare(a, b), slices.Compare(keys[i], keys[j]); got != want {
				t.Fatalf("%v, %v: %d, want %d", a, b, got, want)
			}
		}
	}
}

// TestCompareByHand: P4.6, Op before Letter before kids, and lists of kids.
func TestCompareByHand(t *testing.T) {
	a, b := tree.Letter(0), tree.Letter(1)
	for i, c := range []struct {
		less, greater api.Expr
	}{
		{tree.Node(api.OpEmpty), tree.Node(api.OpUnit)},
		{api.Expr{Op: api.OpEmpty, Letter: 9}, tree.Node(api.OpUnit)},
		{api.Expr{Op: api.OpUnion, Kids: []api.Expr{b, b}}, api.Expr{Op: api.OpUnion, Letter: 1, Kids: []api.Expr{a}}},
		{a, b},
		{tree.Letter(5), tree.Node(api.OpUnion)},
		{tree.Node(api.OpUnion, b, b), tree.Node(api.OpConcat, a, a)},
		{tree.Node(api.OpConcat, a, b), tree.Node(api.OpConcat, a, b, a)},
		{tree.Node(api.OpConcat, a, b, b), tree.Node(api.OpConcat, b, a)},
		{tree.Node(api.OpConcat, a, tree.Node(api.OpStar, a)), tree.Node(api.OpConcat, a, tree.Node(api.OpNot, a))},
		{tree.Node(api.OpStar), tree.Node(api.OpStar, api.Expr{Op: math.MinInt})},
		{tree.Letter(math.MinInt), tree.Letter(math.MaxInt)},
		{api.Expr{Op: math.MinInt}, api.Expr{Op: math.MaxInt}},
		{tree.Chain(api.OpStar, 1<<12-1, a), tree.Chain(api.OpStar, 1<<12-1, b)},
		{tree.Row(api.OpUnion, 1<<16), tree.Row(api.OpUnion, 1<<16+1)},
	} {
		if x, y := expr.Compare(c.less, c.greater), expr.Compare(c.greater, c.less); x != -1 || y != 1 {
			t.Errorf("case %d: %d and %d", i, x, y)
		}
		if x, y := expr.Compare(c.less, tree.Clone(c.less)), expr.Compare(tree.Clone(c.greater), c.greater); x != 0 || y != 0 {
			t.Errorf("case %d, with itself: %d and %d", i, x, y)
		}
	}
	if x := expr.Compare(tree.Node(api.OpUnit), api.Expr{Op: api.OpUnit, Kids: []api.Expr{}}); x != 0 {
		t.Error("nil and no kids:", x)
	}
}

// TestArguments: R3 and R4, for all functions that take an expression.
func TestArguments(t *testing.T) {
	for _, plain := range slices.Concat(tree.Small(4), tree.Scattered(60), tree.Invalid()) {
		e := tree.Spare(plain)
		before := tree.Clone(e)
		for range 2 {
			if why := expr.Validate(e, 2); why != expr.Validate(plain, 2) {
				t.Fatal("Validate", e, why)
			}
			if measured(e) != measured(plain) || expr.Format(e) != expr.Format(plain) || expr.Match(e, "ab") != expr.Match(plain, "ab") || expr.Compare(e, plain) != 0 {
				t.Fatal("not the same results:", e)
			}
			normal := expr.Normal(e)
			if !tree.Same(normal, expr.Normal(plain)) {
				t.Fatal("Normal", e)
			}
			tree.Scribble(normal)
		}
		if !tree.Untouched(e, before) {
			t.Fatal("an argument was modified:", before)
		}
	}
}
