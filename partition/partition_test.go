package partition_test

import (
	"math"
	"slices"
	"testing"

	"semigroup/partition"
)

type list = []int

const limit = 4096 // points of a valid partition

// lists calls visit with all lists of n of the given numbers, in lexicographic order if the numbers ascend.
func lists(n int, numbers list, visit func(l list)) {
	var extend func(begin list)
	extend = func(begin list) {
		if len(begin) == n {
			visit(begin)
			return
		}
		for _, x := range numbers {
			extend(append(begin[:len(begin):len(begin)], x))
		}
	}
	extend(nil)
}

// canonical is the definition: the numbers of the classes, taken from the least points of the classes upwards, are 0, 1, 2 ...
func canonical(l list) bool {
	next := 0
	for i, x := range l {
		if slices.Index(l, x) < i {
			continue
		}
		if x != next {
			return false
		}
		next++
	}
	return true
}

// partitions lists the canonical lists of n points, by trial.
func partitions(n int) []list {
	numbers := make(list, n)
	for i := range n {
		numbers[i] = i
	}
	var found []list
	lists(n, numbers, func(l list) {
		if canonical(l) {
			found = append(found, slices.Clone(l))
		}
	})
	return found
}

// upTo lists all partitions of at most n points.
func upTo(n int) []list {
	var found []list
	for i := range n + 1 {
		found = append(found, partitions(i)...)
	}
	return found
}

// build makes the canonical partition of n points into equal keys.
func build(n int, key func(i int) int) list {
	p := make(list, n)
	var keys list
	for i := range n {
		number := slices.Index(keys, key(i))
		if number < 0 {
			number = len(keys)
			keys = append(keys, key(i))
		}
		p[i] = number
	}
	return p
}

// scatter is a number from 0 to m - 1 that follows no visible pattern.
func scatter(i, seed, m int) int {
	x := uint64(i)*0x9E3779B97F4A7C15 + uint64(seed)*0xD1342543DE82EF95 + 1
	x ^= x >> 31
	x *= 0xBF58476D1CE4E5B9
	x ^= x >> 29
	return int(x % uint64(m))
}

// large lists partitions of n points: one class, single points, halves, remainders, pairs, mirrored pairs and scattered classes.
func large(n int) []list {
	found := []list{
		build(n, func(i int) int { return 0 }),
		build(n, func(i int) int { return i }),
		build(n, func(i int) int { return i * 2 / n }),
		build(n, func(i int) int { return i % 7 }),
		build(n, func(i int) int { return i / 2 }),
		build(n, func(i int) int { return (i + 1) / 2 }),
		build(n, func(i int) int { return min(i, n-1-i) }),
		build(n, func(i int) int { return max(i, n-2) }),
		build(n, func(i int) int { return min(i, 1) }),
	}
	for seed := range 3 {
		for _, m := range []int{2, 50, n, 2 * n} {
			found = append(found, build(n, func(i int) int { return scatter(i, seed, m) }))
		}
	}
	return found
}

// samples are partitions that functions of one partition are compared on.
func samples() []list {
	return slices.Concat(upTo(6), large(100), large(limit))
}

// invalid lists slices that are no valid partitions.
func invalid() []list {
	found := []list{
		{1}, {-1}, {2}, {math.MaxInt}, {math.MinInt}, {1, 0}, {1, 1}, {0, 2}, {0, -1}, {0, 1, 3}, {0, 0, 2}, {0, 1, -1}, {0, 1, 0, 3},
		{0, 1, 2, math.MaxInt}, {0, 1, 2, math.MinInt}, {0, 1 << 32}, {0, 1 << 8},
		make(list, limit+1), make(list, limit+2), make(list, 10000), build(limit+1, func(i int) int { return i }),
	}
	for _, place := range []int{0, 1, limit / 2, limit - 1} {
		p := build(limit, func(i int) int { return i })
		p[place]++
		q := make(list, limit)
		q[place] = -1
		found = append(found, p, q)
	}
	return found
}

func TestValid(t *testing.T) { // P3.1
	for n := range 6 {
		lists(n, list{-1, 0, 1, 2, 3, 4, 5}, func(l list) {
			if got := partition.Valid(l); got != canonical(l) {
				t.Errorf("Valid(%d) = %v", l, got)
			}
		})
	}
	for _, p := range append(samples(), nil, list{}) {
		if !partition.Valid(p) {
			t.Errorf("Valid(%d) = false", p)
		}
	}
	for _, p := range invalid() {
		if partition.Valid(p) {
			t.Errorf("Valid(%d) = true", p)
		}
	}
}

func TestCanonicalOfShortLists(t *testing.T) { // P3.1
	for n := range 6 {
		lists(n, list{math.MinInt, -1, 0, 1, 7, math.MaxInt}, func(l list) {
			got := partition.Canonical(l)
			if len(got) != n || !canonical(got) {
				t.Fatalf("Canonical(%d) = %d", l, got)
			}
			for i := range n {
				for j := range n {
					if (got[i] == got[j]) != (l[i] == l[j]) {
						t.Errorf("Canonical(%d) = %d", l, got)
					}
				}
			}
		})
	}
}

func TestCanonicalOfLongLists(t *testing.T) { // P3.1
	for _, p := range samples() {
		for i, l := range []list{
			p,
			mapped(p, func(x int) int { return -x }),
			mapped(p, func(x int) int { return math.MaxInt - x*x }),
			mapped(p, func(x int) int { return x << 32 }),
			mapped(p, func(x int) int { return x<<40 + math.MinInt }),
		} {
			if got := partition.Canonical(l); !slices.Equal(got, p) {
				t.Errorf("Canonical of the numbers %d of %d = %d", i, p, got)
			}
		}
	}
	for _, n := range []int{limit + 1, limit + 2, 2 * limit, 100000} {
		if got := partition.Canonical(make(list, n)); got != nil {
			t.Errorf("Canonical of %d elements has %d", n, len(got))
		}
	}
}

// mapped replaces each number of a list.
func mapped(l list, f func(x int) int) list {
	m := make(list, len(l))
	for i, x := range l {
		m[i] = f(x)
	}
	return m
}

func TestCountAndClasses(t *testing.T) { // P3.1
	for _, p := range samples() {
		var want []list
		for i, x := range p {
			if x == len(want) {
				want = append(want, nil)
			}
			want[x] = append(want[x], i)
		}
		if got := partition.Classes(p); !slices.EqualFunc(got, want, slices.Equal[list]) {
			t.Errorf("Classes(%d) = %d, not %d", p, got, want)
		}
		if got := partition.Count(p); got != len(want) {
			t.Errorf("Count(%d) = %d, not %d", p, got, len(want))
		}
	}
}

func TestDiscreteAndTrivial(t *testing.T) { // P3.2
	for n := range limit + 1 {
		discrete, trivial := partition.Discrete(n), partition.Trivial(n)
		if len(discrete) != n || len(trivial) != n {
			t.Fatalf("%d points: %d and %d", n, len(discrete), len(trivial))
		}
		for i := range n {
			if discrete[i] != i || trivial[i] != 0 {
				t.Fatalf("%d points: %d and %d", n, discrete, trivial)
			}
		}
	}
	for _, n := range []int{math.MinInt, -1 << 32, -limit, -2, -1, limit + 1, limit + 2, 1 << 20, 1 << 32, math.MaxInt} {
		if got := partition.Discrete(n); got != nil {
			t.Errorf("Discrete(%d) has %d points", n, len(got))
		}
		if got := partition.Trivial(n); got != nil {
			t.Errorf("Trivial(%d) has %d points", n, len(got))
		}
	}
}

// finer is the definition of Refines: points of one class of p are in one class of q.
func finer(p, q list) bool {
	for i := range p {
		for j := range i {
			if p[i] == p[j] && q[i] != q[j] {
				return false
			}
		}
	}
	return true
}

func TestRefinesOnFewPoints(t *testing.T) { // P3.3
	for n := range 7 {
		all := partitions(n)
		for _, p := range all {
			for _, q := range all {
				if got := partition.Refines(p, q); got != finer(p, q) {
					t.Errorf("Refines(%d, %d) = %v", p, q, got)
				}
			}
		}
	}
}

func TestRefinesOnManyPoints(t *testing.T) { // P3.3
	for _, n := range []int{100, 600} {
		for _, p := range large(n) {
			for _, q := range large(n) {
				if got := partition.Refines(p, q); got != finer(p, q) {
					t.Errorf("Refines(%d, %d) = %v", p, q, got)
				}
			}
		}
	}
	single, whole := partition.Discrete(limit), partition.Trivial(limit)
	for _, p := range large(limit) {
		if !partition.Refines(single, p) || !partition.Refines(p, p) || !partition.Refines(p, whole) {
			t.Errorf("%d is not between the partitions into single points and into one class", p)
		}
		if slices.Max(p) < limit-1 && partition.Refines(p, single) || slices.Max(p) > 0 && partition.Refines(whole, p) {
			t.Errorf("%d is beside the partitions into single points and into one class", p)
		}
	}
}

func TestMeet(t *testing.T) { // P3.3
	for n := range 6 {
		all := partitions(n)
		for _, p := range all {
			for _, q := range all {
				compareMeet(t, p, q)
			}
		}
	}
	for _, n := range []int{100, limit} {
		all := large(n)
		for i, p := range all {
			for _, k := range []int{0, 1, 2, 5, 9} {
				compareMeet(t, p, all[(i+k)%len(all)])
			}
		}
	}
}

// compareMeet compares the meet with the partition into equal pairs of class numbers.
func compareMeet(t *testing.T, p, q list) {
	numbers := map[[2]int]int{}
	var want list
	for i := range p {
		pair := [2]int{p[i], q[i]}
		if _, ok := numbers[pair]; !ok {
			numbers[pair] = len(numbers)
		}
		want = append(want, numbers[pair])
	}
	if got := partition.Meet(p, q); !slices.Equal(got, want) {
		t.Errorf("Meet(%d, %d) = %d, not %d", p, q, got, want)
	}
}

func TestJoinIsTheFinest(t *testing.T) { // P3.3
	for n := range 6 {
		all := partitions(n)
		for _, p := range all {
			for _, q := range all {
				got := partition.Join(p, q)
				if len(got) != n || !canonical(got) || !finer(p, got) || !finer(q, got) {
					t.Fatalf("Join(%d, %d) = %d is no partition that both refine", p, q, got)
				}
				for _, r := range all {
					if finer(p, r) && finer(q, r) && !finer(got, r) {
						t.Errorf("Join(%d, %d) = %d does not refine %d", p, q, got, r)
					}
				}
			}
		}
	}
}

// components is the partition of n points into the components of a graph, by a search from each least point.
func components(n int, edges [][2]int) list {
	beside := make([][]int, n)
	for _, e := range edges {
		beside[e[0]] = append(beside[e[0]], e[1])
		beside[e[1]] = append(beside[e[1]], e[0])
	}
	p, count := slices.Repeat(list{-1}, n), 0
	for i := range n {
		if p[i] >= 0 {
			continue
		}
		p[i] = count
		for queue := (list{i}); len(queue) > 0; queue = queue[1:] {
			for _, j := range beside[queue[0]] {
				if p[j] < 0 {
					p[j] = count
					queue = append(queue, j)
				}
			}
		}
		count++
	}
	return p
}

// links joins the points of each class in a chain.
func links(p list) [][2]int {
	var edges [][2]int
	last := map[int]int{}
	for i, x := range p {
		if j, ok := last[x]; ok {
			edges = append(edges, [2]int{j, i})
		}
		last[x] = i
	}
	return edges
}

func TestJoinOfManyPoints(t *testing.T) { // P3.3
	for _, n := range []int{100, limit} {
		all := large(n)
		for i, p := range all {
			for k := range len(all) {
				if n == limit && k%3 > 0 {
					continue
				}
				q := all[(i+k)%len(all)]
				want := components(n, append(links(p), links(q)...))
				if got := partition.Join(p, q); !slices.Equal(got, want) {
					t.Errorf("Join(%d, %d) = %d, not %d", p, q, got, want)
				}
			}
		}
	}
}

func TestFromPairsIsTheFinest(t *testing.T) { // P3.4
	for n := range 4 {
		var edges [][2]int
		for i := range n {
			for j := range n {
				edges = append(edges, [2]int{i, j})
			}
		}
		all := partitions(n)
		for set := range 1 << len(edges) {
			var pairs [][2]int
			for i, e := range edges {
				if set>>i&1 == 1 {
					pairs = append(pairs, e)
				}
			}
			joins := func(p list) bool {
				return !slices.ContainsFunc(pairs, func(e [2]int) bool { return p[e[0]] != p[e[1]] })
			}
			got := partition.FromPairs(n, pairs)
			if len(got) != n || !canonical(got) || !joins(got) {
				t.Fatalf("FromPairs(%d, %d) = %d", n, pairs, got)
			}
			for _, p := range all {
				if joins(p) && !finer(got, p) {
					t.Errorf("FromPairs(%d, %d) = %d does not refine %d", n, pairs, got, p)
				}
			}
		}
	}
}

// chains lists pairs of n points: none, chains up, down, outwards and in steps, stars, a binary tree and scattered pairs.
func chains(n int) [][][2]int {
	found := make([][][2]int, 8)
	for i := range n - 1 {
		for k, e := range [][2]int{
			{i, i + 1},
			{n - 1 - i, n - 2 - i},
			{0, i + 1},
			{n - 1, i},
			{i, (i*3 + 1) % n},
			{i + 1, i / 2},
			{i, n - 1 - i},
		} {
			found[k+1] = append(found[k+1], e)
		}
	}
	for seed := range 6 {
		var pairs [][2]int
		for i := range n * (seed + 1) / 3 {
			pairs = append(pairs, [2]int{scatter(2*i, seed, n), scatter(2*i+1, seed, n)})
		}
		found = append(found, pairs)
	}
	return found
}

func TestFromPairsOfManyPoints(t *testing.T) { // P3.4
	for _, n := range []int{4, 5, 10, 100, limit - 1, limit} {
		for i, pairs := range chains(n) {
			want := components(n, pairs)
			if got := partition.FromPairs(n, pairs); !slices.Equal(got, want) {
				t.Errorf("%d points, pairs %d: %d, not %d", n, i, got, want)
			}
		}
	}
	for _, n := range []int{0, 1, 2, limit} {
		if got := partition.FromPairs(n, nil); !slices.Equal(got, partition.Discrete(n)) {
			t.Errorf("FromPairs(%d) of no pairs = %d", n, got)
		}
	}
	if got := partition.FromPairs(2, slices.Repeat([][2]int{{1, 0}, {0, 1}}, 100000)); !slices.Equal(got, list{0, 0}) {
		t.Errorf("FromPairs of many pairs = %d", got)
	}
}

func TestFromPairsOfWrongPoints(t *testing.T) { // P3.4
	for _, n := range []int{math.MinInt, -1 << 32, -1, limit + 1, limit + 2, 1 << 32, math.MaxInt} {
		for _, pairs := range [][][2]int{nil, {{0, 0}}, {{0, 1}}, {{-1, -2}}} {
			if got := partition.FromPairs(n, pairs); got != nil {
				t.Errorf("FromPairs(%d, %d) = %d", n, pairs, got)
			}
		}
	}
	for _, n := range []int{0, 1, 2, 3, 100, limit} {
		for _, wrong := range []int{math.MinInt, -n, -1, n, n + 1, limit, 1 << 32, math.MaxInt} {
			if wrong >= 0 && wrong < n || n == 0 && wrong == -n {
				continue
			}
			for _, right := range []int{0, n - 1, n / 2, wrong} {
				for _, pair := range [][2]int{{wrong, right}, {right, wrong}} {
					valid := chains(max(n, 1))[0:2:2]
					for _, pairs := range valid {
						for _, l := range [][][2]int{{pair}, append(slices.Clone(pairs), pair), append([][2]int{pair}, pairs...)} {
							if got := partition.FromPairs(n, l); got != nil {
								t.Errorf("FromPairs of %d points and %d = %d", n, pair, got)
							}
						}
					}
				}
			}
		}
	}
	if got := partition.FromPairs(0, [][2]int{{0, 0}}); got != nil {
		t.Errorf("FromPairs(0, {{0, 0}}) = %d", got)
	}
}

// saturates is the definition of Saturates.
func saturates(p list, set []bool) bool {
	for i := range p {
		for j := range i {
			if p[i] == p[j] && set[i] != set[j] {
				return false
			}
		}
	}
	return true
}

// setOf makes a set of n points.
func setOf(n int, has func(i int) bool) []bool {
	set := make([]bool, n)
	for i := range n {
		set[i] = has(i)
	}
	return set
}

func TestSaturates(t *testing.T) { // P3.5
	for _, p := range upTo(6) {
		for code := range 1 << len(p) {
			set := setOf(len(p), func(i int) bool { return code>>i&1 == 1 })
			if got := partition.Saturates(p, set); got != saturates(p, set) {
				t.Errorf("Saturates(%d, %v) = %v", p, set, got)
			}
		}
	}
	for _, p := range append(large(100), large(limit)...) {
		n := len(p)
		for i := range 4 {
			set := setOf(n, func(j int) bool { return i&1 == 1 != (p[j]%4 < i) })
			if !partition.Saturates(p, set) {
				t.Errorf("Saturates(%d, %v) = false", p, set)
			}
			for _, place := range []int{0, 1, n / 2, n - 1} {
				set[place] = !set[place]
				alone := slices.Index(p, p[place]) == place && !slices.Contains(p[place+1:], p[place])
				if got := partition.Saturates(p, set); got != alone {
					t.Errorf("Saturates(%d, %v) = %v", p, set, got)
				}
				set[place] = !set[place]
			}
		}
	}
}

func TestAll(t *testing.T) { // P3.5
	for n, count := range []int{1, 1, 2, 5, 15, 52, 203, 877} { // Bell numbers
		want, got := partitions(n), partition.All(n)
		if len(want) != count || !slices.EqualFunc(got, want, slices.Equal[list]) {
			t.Errorf("All(%d) = %d, not %d", n, got, want)
		}
		for i := 1; i < len(got); i++ {
			if slices.Compare(got[i-1], got[i]) >= 0 {
				t.Errorf("All(%d) is not ascending: %d, %d", n, got[i-1], got[i])
			}
		}
	}
	for _, n := range []int{math.MinInt, -1 << 32, -7, -1, 8, 9, 64, limit, 1 << 32, math.MaxInt} {
		if got := partition.All(n); got != nil {
			t.Errorf("All(%d) has %d partitions", n, len(got))
		}
	}
}

func TestInvalidPartitions(t *testing.T) { // P3.6
	for _, p := range invalid() {
		n := len(p)
		if got := partition.Count(p); got != 0 {
			t.Errorf("Count(%d) = %d", p, got)
		}
		if got := partition.Classes(p); got != nil {
			t.Errorf("Classes(%d) = %d", p, got)
		}
		for _, set := range [][]bool{nil, {true}, make([]bool, n), setOf(n, func(int) bool { return true })} {
			if partition.Saturates(p, set) {
				t.Errorf("Saturates(%d, %v) = true", p, set)
			}
		}
		for _, q := range []list{p, nil, {0}, make(list, n), build(n, func(i int) int { return i })} {
			for _, pair := range [][2]list{{p, q}, {q, p}} {
				if !zeroOf(pair[0], pair[1]) {
					t.Errorf("the invalid partition %d gives a result", p)
				}
			}
		}
	}
}

// zeroOf reports whether the functions of two partitions return their zero values.
func zeroOf(p, q list) bool {
	return !partition.Refines(p, q) && partition.Meet(p, q) == nil && partition.Join(p, q) == nil
}

func TestDifferentNumbersOfPoints(t *testing.T) { // P3.6
	all := slices.Concat(upTo(4), []list{make(list, 100), make(list, limit-1), make(list, limit), partition.Discrete(limit - 1), partition.Discrete(limit)})
	for _, p := range all {
		for _, q := range all {
			if len(p) == len(q) {
				continue
			}
			if !zeroOf(p, q) {
				t.Errorf("%d and %d points give a result", len(p), len(q))
			}
			for _, value := range []bool{false, true} {
				if partition.Saturates(p, setOf(len(q), func(int) bool { return value })) {
					t.Errorf("Saturates of %d points and a set of %d = true", len(p), len(q))
				}
			}
		}
	}
}

// poison overwrites a result up to its capacity, as a caller may.
func poison[T any](l []T, value T) {
	l = l[:cap(l)]
	for i := range l {
		l[i] = value
	}
}

func TestArgumentsAreKept(t *testing.T) { // R3, R4
	for _, p := range append(samples(), invalid()...) {
		// Memory between the length and the capacity belongs to the caller too.
		room := append(slices.Clone(p), 1234, 5678)
		flags := append(make([]bool, len(p)), true, false)
		pairs := append(links(list{0, 0, 1, 0}), [2]int{5, 6})
		before, flagsBefore, pairsBefore := slices.Clone(room), slices.Clone(flags), slices.Clone(pairs)
		arg := room[:len(p)]
		for range 2 {
			poison(partition.Canonical(arg), -1)
			poison(partition.Meet(arg, arg), -1)
			poison(partition.Join(arg, arg), -1)
			poison(partition.FromPairs(len(p), pairs[:2]), -1)
			for _, class := range partition.Classes(arg) {
				poison(class, -1)
			}
			partition.Valid(arg)
			partition.Count(arg)
			partition.Refines(arg, arg)
			partition.Saturates(arg, flags[:len(p)])
			if !slices.Equal(room, before) || !slices.Equal(flags, flagsBefore) || !slices.Equal(pairs, pairsBefore) {
				t.Fatalf("the argument %d has become %d, or the set or the pairs have changed", before, room)
			}
		}
	}
}

func TestResultsAreNew(t *testing.T) { // R4, and no two slices of a result share memory
	for range 2 {
		all := partition.All(3)
		if !slices.EqualFunc(all, partitions(3), slices.Equal[list]) {
			t.Error(all)
		}
		discrete, trivial := partition.Discrete(2), partition.Trivial(2)
		if !slices.Equal(discrete, list{0, 1}) || !slices.Equal(trivial, list{0, 0}) {
			t.Error(discrete, trivial)
		}
		poison(discrete, -1)
		poison(trivial, -1)
	}
	for _, rows := range [][]list{partition.All(4), partition.Classes(list{0, 1, 0, 2, 1, 0})} {
		before := make([]list, len(rows))
		for i, row := range rows {
			before[i] = slices.Clone(row)
		}
		for i, row := range rows {
			if !slices.Equal(row, before[i]) {
				t.Errorf("row %d shares memory with a row before it", i)
			}
			poison(row, -1)
		}
	}
}

func TestExamplesOfTheChapter(t *testing.T) {
	for i, c := range []struct{ got, want list }{
		{partition.Canonical(list{7, 5, 7}), list{0, 1, 0}},
		{partition.Meet(list{0, 0, 1}, list{0, 1, 1}), list{0, 1, 2}},
		{partition.Join(list{0, 0, 1}, list{0, 1, 1}), list{0, 0, 0}},
		{partition.FromPairs(4, [][2]int{{3, 1}}), list{0, 1, 2, 1}},
	} {
		if !slices.Equal(c.got, c.want) {
			t.Error(i, c.got)
		}
	}
	if l := partition.All(0); len(l) != 1 || len(l[0]) != 0 {
		t.Error(l)
	}
	if l := partition.All(3); len(l) != 5 || !slices.Equal(l[0], list{0, 0, 0}) || !slices.Equal(l[4], list{0, 1, 2}) {
		t.Error(l)
	}
}
