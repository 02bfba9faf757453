package relation_test

import (
	"slices"
	"testing"

	"semigroup/relation"
)

type rel = []uint64

const all = ^uint64(0)

// related reads one bit of a relation.
func related(r rel, i, j int) bool {
	return r[i]&(uint64(1)<<uint(j)) != 0
}

// build makes the relation on n points that a test of two points describes.
func build(n int, test func(i, j int) bool) rel {
	r := make(rel, n)
	for i := range n {
		for j := range n {
			if test(i, j) {
				r[i] |= uint64(1) << uint(j)
			}
		}
	}
	return r
}

// relations lists all relations on n points.
func relations(n int) []rel {
	var list []rel
	for code := range 1 << (n * n) {
		list = append(list, build(n, func(i, j int) bool { return code>>(n*i+j)&1 == 1 }))
	}
	return list
}

// upTo lists all relations on at most n points.
func upTo(n int) []rel {
	var list []rel
	for i := range n + 1 {
		list = append(list, relations(i)...)
	}
	return list
}

// scattered makes a relation on n points in which each pair is related in about one of every sparse cases.
func scattered(n, sparse int, seed uint64) rel {
	return build(n, func(int, int) bool {
		seed ^= seed << 13
		seed ^= seed >> 7
		seed ^= seed << 17
		return seed%uint64(sparse) == 0
	})
}

// large lists relations with many points, up to 64: none, all, a path, a cycle, paths downwards, and scattered ones.
func large() []rel {
	var list []rel
	for _, n := range []int{5, 31, 32, 33, 63, 64} {
		list = append(list,
			make(rel, n),
			build(n, func(int, int) bool { return true }),
			build(n, func(i, j int) bool { return j == i+1 }),
			build(n, func(i, j int) bool { return j == (i+1)%n }),
			build(n, func(i, j int) bool { return i == j+1 }),
			build(n, func(i, j int) bool { return i > j }),
			build(n, func(i, j int) bool { return i == j || i%3 == j%3 && i < j }),
		)
		for seed := range uint64(4) {
			for _, sparse := range []int{2, n, 3 * n} {
				list = append(list, scattered(n, sparse, seed*977+uint64(n*sparse)+1))
			}
		}
	}
	return list
}

// samples are relations that functions of one relation are compared on.
func samples() []rel {
	return append(upTo(3), large()...)
}

// invalid lists slices that are no relations.
func invalid() []rel {
	list := []rel{{2}, {all}, {1 << 63}, {4, 0}, {0, 4}, {3, 3, 8}, {0, 0, all}, make(rel, 65), make(rel, 66), make(rel, 1000), slices.Repeat(rel{1}, 65)}
	for _, n := range []int{1, 2, 31, 32, 62, 63} {
		for _, place := range []int{0, n - 1} {
			for _, bit := range []int{n, 63} {
				r := make(rel, n)
				r[place] = uint64(1) << uint(bit)
				list = append(list, r)
			}
		}
	}
	return list
}

// reach is the closure by its meaning: the points that paths lead to.
func reach(r rel) rel {
	n := len(r)
	c := make(rel, n)
	var visit func(from, at int)
	visit = func(from, at int) {
		if related(c, from, at) {
			return
		}
		c[from] |= uint64(1) << uint(at)
		for next := range n {
			if related(r, at, next) {
				visit(from, next)
			}
		}
	}
	for i := range n {
		visit(i, i)
	}
	return c
}

func TestValid(t *testing.T) { // P2.1
	for _, r := range append(samples(), nil, rel{}) {
		if !relation.Valid(r) {
			t.Errorf("Valid(%x) = false", r)
		}
	}
	for _, r := range invalid() {
		if relation.Valid(r) {
			t.Errorf("Valid(%x) = true", r)
		}
	}
	for n := range 65 {
		for i := range n {
			for bit := range 64 {
				r := make(rel, n)
				r[i] = uint64(1) << uint(bit)
				if got := relation.Valid(r); got != (bit < n) {
					t.Errorf("Valid with bit %d of point %d of %d points = %v", bit, i, n, got)
				}
			}
		}
	}
}

func TestInvalidRelations(t *testing.T) { // P2.1, R2
	for _, r := range invalid() {
		for name, got := range map[string]rel{
			"Transpose": relation.Transpose(r), "Closure": relation.Closure(r), "Order": relation.Order(r),
		} {
			if got != nil {
				t.Errorf("%s(%x) = %x", name, r, got)
			}
		}
		if got := relation.Components(r); got != nil {
			t.Errorf("Components(%x) = %d", r, got)
		}
		if got, ok := relation.Topological(r); got != nil || ok {
			t.Errorf("Topological(%x) = %d, %v", r, got, ok)
		}
		for _, set := range []uint64{0, 1, 2, 1 << 63, all} {
			if got := relation.Image(r, set); got != 0 {
				t.Errorf("Image(%x, %x) = %x", r, set, got)
			}
		}
	}
}

// pairs are the functions of two relations.
var pairs = map[string]func(a, b []uint64) []uint64{"Compose": relation.Compose, "Union": relation.Union, "Meet": relation.Meet}

func TestInvalidPairs(t *testing.T) { // P2.1, R2
	for name, f := range pairs {
		for _, r := range invalid() {
			for _, s := range []rel{make(rel, len(r)), relation.Identity(len(r)), r, nil, {1}} {
				if got := f(r, s); got != nil {
					t.Errorf("%s(%x, %x) = %x", name, r, s, got)
				}
				if got := f(s, r); got != nil {
					t.Errorf("%s(%x, %x) = %x", name, s, r, got)
				}
			}
		}
		for m := range 65 {
			for _, n := range []int{0, 1, 2, 3, 63, 64} {
				a, b := relation.Identity(m), relation.Identity(n)
				if m == n {
					continue
				}
				if got := f(a, b); got != nil {
					t.Errorf("%s of %d and %d points = %x", name, m, n, got)
				}
				if got := f(b, a); got != nil {
					t.Errorf("%s of %d and %d points = %x", name, n, m, got)
				}
			}
		}
	}
}

func TestIdentity(t *testing.T) { // P2.2
	for n := range 65 {
		want := build(n, func(i, j int) bool { return i == j })
		if got := relation.Identity(n); !slices.Equal(got, want) {
			t.Errorf("Identity(%d) = %x", n, got)
		}
	}
	for _, n := range []int{-1 << 63, -64, -1, 65, 66, 128, 1 << 32, 1<<63 - 1} {
		if got := relation.Identity(n); got != nil {
			t.Errorf("Identity(%d) = %x", n, got)
		}
	}
}

// comparePairs compares the functions of two relations with their definitions.
func comparePairs(t *testing.T, a, b rel) {
	n := len(a)
	for name, test := range map[string]func(i, k int) bool{
		"Compose": func(i, k int) bool {
			for j := range n {
				if related(a, i, j) && related(b, j, k) {
					return true
				}
			}
			return false
		},
		"Union": func(i, k int) bool { return related(a, i, k) || related(b, i, k) },
		"Meet":  func(i, k int) bool { return related(a, i, k) && related(b, i, k) },
	} {
		want := build(n, test)
		if got := pairs[name](a, b); !slices.Equal(got, want) {
			t.Errorf("%s(%x, %x) = %x, not %x", name, a, b, got, want)
		}
	}
}

func TestPairsOfFewPoints(t *testing.T) { // P2.2
	for n := range 3 {
		for _, a := range relations(n) {
			for _, b := range relations(n) {
				comparePairs(t, a, b)
			}
		}
	}
	for i, a := range relations(3) {
		for j, b := range relations(3) {
			if (i+j)%7 == 0 {
				comparePairs(t, a, b)
			}
		}
	}
}

func TestPairsOfManyPoints(t *testing.T) { // P2.2
	list := large()
	for i, a := range list {
		for _, k := range []int{0, 1, 3, 8} {
			if b := list[(i+k)%len(list)]; len(b) == len(a) {
				comparePairs(t, a, b)
				comparePairs(t, b, a)
			}
		}
	}
}

func TestTranspose(t *testing.T) { // P2.2
	for _, r := range samples() {
		want := build(len(r), func(i, j int) bool { return related(r, j, i) })
		if got := relation.Transpose(r); !slices.Equal(got, want) {
			t.Errorf("Transpose(%x) = %x, not %x", r, got, want)
		}
	}
}

// within reports whether a is a part of b.
func within(a, b rel) bool {
	for i := range a {
		if a[i]&^b[i] != 0 {
			return false
		}
	}
	return true
}

func TestClosureIsTheLeast(t *testing.T) { // P2.3
	for n := range 4 {
		var closed []rel
		for _, s := range relations(n) {
			good := true
			for i := range n {
				good = good && related(s, i, i)
				for j := range n {
					good = good && (!related(s, i, j) || s[j]&^s[i] == 0)
				}
			}
			if good {
				closed = append(closed, s)
			}
		}
		for _, r := range relations(n) {
			got := relation.Closure(r)
			if len(got) != n || !within(r, got) || !slices.ContainsFunc(closed, func(s rel) bool { return slices.Equal(s, got) }) {
				t.Errorf("Closure(%x) = %x does not contain the relation, or is not closed", r, got)
			}
			for _, s := range closed {
				if within(r, s) && !within(got, s) {
					t.Errorf("Closure(%x) = %x, but %x is less", r, got, s)
				}
			}
		}
	}
}

func TestClosureIsReach(t *testing.T) { // P2.3
	for _, r := range append(relations(4), large()...) {
		if got, want := relation.Closure(r), reach(r); !slices.Equal(got, want) {
			t.Errorf("Closure(%x) = %x, not %x", r, got, want)
		}
	}
}

func TestImage(t *testing.T) { // P2.3
	for _, r := range samples() {
		n := len(r)
		sets := []uint64{0, 1, 2, 3, 6, 1 << 31, 1 << 32, 1 << 62, 1 << 63, 0xAAAAAAAAAAAAAAAA, 0xFFFFFFFF, all}
		for i := range uint64(8) {
			sets = append(sets, i, i<<uint(n), i*0x9E3779B97F4A7C15)
		}
		for _, set := range sets {
			var want uint64
			for i := range n {
				if set&(uint64(1)<<uint(i)) != 0 {
					want |= r[i]
				}
			}
			if got := relation.Image(r, set); got != want {
				t.Errorf("Image(%x, %x) = %x, not %x", r, set, got, want)
			}
		}
	}
}

func TestMembers(t *testing.T) { // P2.3
	sets := []uint64{1 << 31, 1 << 32, 1<<32 - 1, 1 << 62, 1 << 63, 1<<63 | 1, 1<<63 - 1, all, 0x9E3779B97F4A7C15}
	for set := range uint64(1 << 10) {
		sets = append(sets, set, set<<54)
	}
	for _, set := range sets {
		var want []int
		for i := range 64 {
			if set&(uint64(1)<<uint(i)) != 0 {
				want = append(want, i)
			}
		}
		if got := relation.Members(set); !slices.Equal(got, want) {
			t.Errorf("Members(%x) = %d, not %d", set, got, want)
		}
	}
}

// componentsOf finds the components by their definition, from their least points.
func componentsOf(closure rel) ([]int, int) {
	n, count := len(closure), 0
	numbers := slices.Repeat([]int{-1}, n)
	for i := range n {
		if numbers[i] >= 0 {
			continue
		}
		for j := range n {
			if related(closure, i, j) && related(closure, j, i) {
				numbers[j] = count
			}
		}
		count++
	}
	return numbers, count
}

func TestComponentsAndOrder(t *testing.T) { // P2.4
	for _, r := range slices.Concat(samples(), relations(4)) {
		closure := reach(r)
		numbers, count := componentsOf(closure)
		if got := relation.Components(r); !slices.Equal(got, numbers) {
			t.Errorf("Components(%x) = %d, not %d", r, got, numbers)
		}
		order := make(rel, count)
		for i, x := range numbers {
			for j, y := range numbers {
				if related(closure, i, j) {
					order[x] |= uint64(1) << uint(y)
				}
			}
		}
		if got := relation.Order(r); !slices.Equal(got, order) {
			t.Errorf("Order(%x) = %x, not %x", r, got, order)
		}
	}
}

// permutations lists the lists of the points 0 to n - 1 in lexicographic order.
func permutations(n int) [][]int {
	var list [][]int
	var extend func(begin []int)
	extend = func(begin []int) {
		if len(begin) == n {
			list = append(list, slices.Clone(begin))
			return
		}
		for i := range n {
			if !slices.Contains(begin, i) {
				extend(append(begin, i))
			}
		}
	}
	extend(nil)
	return list
}

// sorted reports whether a list of all points is a topological order.
func sorted(r rel, list []int) bool {
	for later, j := range list {
		for _, i := range list[later+1:] {
			if related(r, i, j) {
				return false
			}
		}
	}
	return true
}

func TestTopologicalOfFewPoints(t *testing.T) { // P2.5
	for n := range 5 {
		candidates := permutations(n)
		for _, r := range relations(n) {
			k := slices.IndexFunc(candidates, func(list []int) bool { return sorted(r, list) })
			got, ok := relation.Topological(r)
			switch {
			case k < 0 && (got != nil || ok):
				t.Errorf("Topological(%x) = %d, %v, but there is none", r, got, ok)
			case k >= 0 && (!slices.Equal(got, candidates[k]) || !ok):
				t.Errorf("Topological(%x) = %d, %v, not %d", r, got, ok, candidates[k])
			}
		}
	}
}

func TestTopologicalOfManyPoints(t *testing.T) { // P2.5
	for _, n := range []int{5, 33, 63, 64} {
		up := make([]int, n)
		for i := range n {
			up[i] = i
		}
		down := slices.Clone(up)
		slices.Reverse(down)
		// The last point stands before all others, which are free.
		first := append([]int{n - 1}, up[:n-1]...)
		for i, c := range []struct {
			test func(i, j int) bool
			want []int
		}{
			{func(i, j int) bool { return false }, up},
			{func(i, j int) bool { return i == j }, up},
			{func(i, j int) bool { return i <= j }, up},
			{func(i, j int) bool { return i >= j }, down},
			{func(i, j int) bool { return i == j+1 }, down},
			{func(i, j int) bool { return i == n-1 && j == 0 }, append(slices.Clone(up[1:n]), 0)},
			{func(i, j int) bool { return i == n-1 }, first},
			{func(i, j int) bool { return j == (i+1)%n }, nil},
			{func(i, j int) bool { return true }, nil},
			{func(i, j int) bool { return i+j == 2*n-3 }, nil},
		} {
			got, ok := relation.Topological(build(n, c.test))
			if !slices.Equal(got, c.want) || ok != (c.want != nil) {
				t.Error(n, i, got, ok)
			}
		}
	}
}

func TestNoPoints(t *testing.T) { // P2.1 to P2.5
	for _, r := range []rel{nil, {}} {
		for name, got := range map[string]rel{
			"Compose": relation.Compose(r, r), "Union": relation.Union(r, nil), "Meet": relation.Meet(nil, r),
			"Transpose": relation.Transpose(r), "Closure": relation.Closure(r), "Order": relation.Order(r),
		} {
			if len(got) != 0 {
				t.Error(name, got)
			}
		}
		if relation.Image(r, all) != 0 || len(relation.Components(r)) != 0 {
			t.Error("Image or Components")
		}
		if list, ok := relation.Topological(r); len(list) != 0 || !ok {
			t.Error(list, ok)
		}
	}
}

// poison overwrites a result up to its capacity, as a caller may.
func poison[T any](list []T, value T) {
	list = list[:cap(list)]
	for i := range list {
		list[i] = value
	}
}

func TestArgumentsAreKept(t *testing.T) { // R3, R4
	for _, r := range append(samples(), invalid()...) {
		// Memory between the length and the capacity belongs to the caller too.
		room := append(slices.Clone(r), 0x1234, 0x5678)
		before := slices.Clone(room)
		arg := room[:len(r)]
		for range 2 {
			for _, f := range pairs {
				poison(f(arg, arg), all)
			}
			poison(relation.Transpose(arg), all)
			poison(relation.Closure(arg), all)
			poison(relation.Order(arg), all)
			poison(relation.Components(arg), -1)
			list, _ := relation.Topological(arg)
			poison(list, -1)
			relation.Image(arg, all)
			relation.Valid(arg)
			if !slices.Equal(room, before) {
				t.Fatalf("the argument %x has become %x", before, room)
			}
		}
	}
	for range 2 {
		if got := relation.Identity(2); !slices.Equal(got, rel{1, 2}) {
			t.Error(got)
		} else {
			poison(got, all)
		}
		if got := relation.Members(5); !slices.Equal(got, []int{0, 2}) {
			t.Error(got)
		} else {
			poison(got, -1)
		}
	}
}

func TestExamplesOfTheChapter(t *testing.T) {
	if r := relation.Compose(rel{2, 0}, rel{0, 3}); !slices.Equal(r, rel{3, 0}) {
		t.Error(r)
	}
	if r := relation.Closure(rel{2, 0}); !slices.Equal(r, rel{3, 2}) {
		t.Error(r)
	}
	if l := relation.Components(rel{2, 1, 0}); !slices.Equal(l, []int{0, 0, 1}) {
		t.Error(l)
	}
	if r := relation.Order(rel{2, 1, 1}); !slices.Equal(r, rel{1, 3}) {
		t.Error(r)
	}
	if l, ok := relation.Topological(rel{0, 1}); !slices.Equal(l, []int{1, 0}) || !ok {
		t.Error(l, ok)
	}
	if l, ok := relation.Topological(rel{2, 1}); l != nil || ok {
		t.Error(l, ok)
	}
}
