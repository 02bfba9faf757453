package word_test

import (
	"math/bits"
	"slices"
	"strings"
	"testing"

	"semigroup/api"
	"semigroup/word"
)

const beyond = 1<<62 + 1

// oddities are strings that are no words: the functions other than Valid, Rank and Unrank accept them too.
var oddities = []string{"\xff", "\x00", "é", "a\xc3", "\xa9", "A", "g", " ", "ab\xff\xffab", "\x80a\x80"}

// wordsUpTo lists the strings over the first letters of the alphabet up to a length in shortlex order.
func wordsUpTo(length, letters int) []string {
	list := []string{""}
	for i := 0; i < len(list) && len(list[i]) < length; i++ {
		for a := range letters {
			list = append(list, list[i]+string(rune('a'+a)))
		}
	}
	return list
}

// samples are strings that the functions for arbitrary strings are compared on.
func samples() []string {
	return slices.Concat(wordsUpTo(6, 2), wordsUpTo(4, 3), oddities)
}

// successor returns the next word of the same length, and false after the last one.
func successor(w string, letters int) (string, bool) {
	b := []byte(w)
	for i := len(b) - 1; i >= 0; i-- {
		if int(b[i]-'a')+1 < letters {
			b[i]++
			return string(b), true
		}
		b[i] = 'a'
	}
	return "", false
}

func TestValid(t *testing.T) { // P1.1
	for letters := 1; letters <= api.MaxLetters; letters++ {
		for c := range 256 {
			want := c >= 'a' && c < 'a'+letters
			for _, w := range []string{string([]byte{byte(c)}), string([]byte{'a', byte(c)}), string([]byte{byte(c), 'a'})} {
				if got := word.Valid(w, letters); got != want {
					t.Errorf("Valid(%q, %d) = %v", w, letters, got)
				}
			}
		}
		if !word.Valid("", letters) {
			t.Errorf("Valid of the empty word over %d letters", letters)
		}
		last := string(rune('a' + letters - 1))
		if !word.Valid(strings.Repeat(last, api.MaxWord), letters) || word.Valid(strings.Repeat(last, api.MaxWord+1), letters) {
			t.Errorf("Valid of long words over %d letters", letters)
		}
	}
	for _, letters := range []int{-1 << 63, -1, 0, api.MaxLetters + 1, 26, 256, 1<<63 - 1} {
		if word.Valid("", letters) || word.Valid("a", letters) || word.Valid("g", letters) {
			t.Errorf("Valid over %d letters", letters)
		}
	}
}

func TestCompare(t *testing.T) { // P1.2
	for _, letters := range []int{1, 2, 3, 6} {
		list := wordsUpTo(3, letters)
		for i, u := range list {
			for j, v := range list {
				want := 0
				if i < j {
					want = -1
				} else if i > j {
					want = 1
				}
				if got := word.Compare(u, v); got != want {
					t.Errorf("Compare(%q, %q) = %d", u, v, got)
				}
			}
		}
	}
	for i, c := range []struct {
		u, v string
		want int
	}{
		{"\xff", "aa", -1}, {"zz", "aaa", -1}, {"\x00", "a", -1}, {"\xff", "\x7f", 1}, {"é", "a", 1}, {"é", "zz", 1}, {"\xff\xff", "\xff\xff", 0},
		{strings.Repeat("b", 5000), strings.Repeat("a", 5001), -1}, {strings.Repeat("a", 5000) + "b", strings.Repeat("a", 5001), 1},
	} {
		if got := word.Compare(c.u, c.v); got != c.want {
			t.Error(i, got)
		}
		if got := word.Compare(c.v, c.u); got != -c.want {
			t.Error(i, got)
		}
	}
}

func TestRankOfShortWords(t *testing.T) { // P1.3
	for letters := 1; letters <= api.MaxLetters; letters++ {
		for i, w := range wordsUpTo(4, letters) {
			if n, ok := word.Rank(w, letters); n != i || !ok {
				t.Errorf("Rank(%q, %d) = %d, %v, not %d", w, letters, n, ok, i)
			}
			if v, ok := word.Unrank(i, letters); v != w || !ok {
				t.Errorf("Unrank(%d, %d) = %q, %v, not %q", i, letters, v, ok, w)
			}
		}
	}
}

func TestRankAtItsLimit(t *testing.T) { // P1.3
	for letters := 2; letters <= api.MaxLetters; letters++ {
		for _, n := range []int{1<<31 - 1, 1 << 31, 1<<53 + 1, 1<<61 + 7, 1<<62 - 1, 1 << 62} {
			w, ok := word.Unrank(n, letters)
			if !ok || !word.Valid(w, letters) {
				t.Errorf("Unrank(%d, %d) = %q, %v", n, letters, w, ok)
			}
			if m, ok := word.Rank(w, letters); m != n || !ok {
				t.Errorf("Rank(%q, %d) = %d, %v, not %d", w, letters, m, ok, n)
			}
		}
		last, _ := word.Unrank(1<<62, letters)
		next, ok := successor(last, letters)
		if !ok {
			next = strings.Repeat("a", len(last)+1)
		}
		long := strings.Repeat("a", len(last))
		for _, w := range []string{next, last + "a", long + "a", long + long, strings.Repeat("b", api.MaxWord), strings.Repeat("a", api.MaxWord)} {
			if n, ok := word.Rank(w, letters); n != 0 || ok {
				t.Errorf("Rank(%q, %d) = %d, %v", w, letters, n, ok)
			}
		}
		for _, n := range []int{beyond, 1<<63 - 1, -1, -1 << 62, -1 << 63} {
			if w, ok := word.Unrank(n, letters); w != "" || ok {
				t.Errorf("Unrank(%d, %d) = %q, %v", n, letters, w, ok)
			}
		}
	}
}

func TestRankOverOneLetter(t *testing.T) { // P1.3
	for _, n := range []int{0, 1, 62, 63, 64, api.MaxWord - 1, api.MaxWord} {
		w := strings.Repeat("a", n)
		if m, ok := word.Rank(w, 1); m != n || !ok {
			t.Error(n, m, ok)
		}
		if v, ok := word.Unrank(n, 1); v != w || !ok {
			t.Error(n, v, ok)
		}
	}
	for _, n := range []int{-1, api.MaxWord + 1, 1 << 31, 1 << 62, beyond} {
		if w, ok := word.Unrank(n, 1); w != "" || ok {
			t.Error(n, w, ok)
		}
	}
}

func TestRankOfInvalidArguments(t *testing.T) { // P1.3, R2
	for i, c := range []struct {
		w       string
		letters int
	}{
		{"", 0}, {"", -1}, {"", 7}, {"a", 7}, {"c", 2}, {"ac", 2}, {"ca", 2}, {"g", 6}, {"A", 6}, {"`", 6}, {"a\x00", 6}, {"é", 6},
		{strings.Repeat("a", api.MaxWord+1), 1}, {strings.Repeat("a", api.MaxWord+1), 2}, {strings.Repeat("b", 1000) + "c", 2},
	} {
		if n, ok := word.Rank(c.w, c.letters); n != 0 || ok {
			t.Error(i, n, ok)
		}
	}
	for _, letters := range []int{-1 << 63, -1, 0, 7, 256, 1<<63 - 1} {
		for _, n := range []int{0, 1, 5} {
			if w, ok := word.Unrank(n, letters); w != "" || ok {
				t.Error(letters, n, w, ok)
			}
		}
	}
}

func TestReverse(t *testing.T) { // P1.4
	for w, want := range map[string]string{"": "", "a": "a", "ab": "ba", "abc": "cba", "aab": "baa", "abcd": "dcba", "é": "\xa9\xc3", "a\xff\x00": "\x00\xffa"} {
		if got := word.Reverse(w); got != want {
			t.Errorf("Reverse(%q) = %q", w, got)
		}
	}
	for _, w := range samples() {
		v := word.Reverse(w)
		if len(v) != len(w) || word.Reverse(v) != w {
			t.Errorf("Reverse(%q) = %q", w, v)
		}
	}
}

func TestIsFactor(t *testing.T) { // P1.4
	for _, w := range samples() {
		found := map[string]bool{}
		for i := range len(w) + 1 {
			for j := i; j <= len(w); j++ {
				found[w[i:j]] = true
			}
		}
		for _, u := range slices.Concat(wordsUpTo(4, 2), oddities, []string{w + "a", "a" + w}) {
			if got := word.IsFactor(u, w); got != found[u] {
				t.Errorf("IsFactor(%q, %q) = %v", u, w, got)
			}
		}
		if !word.IsFactor("", w) || !word.IsFactor(w, w) {
			t.Errorf("trivial factors of %q", w)
		}
	}
}

// subwordSet computes the subwords of w from its sets of positions.
func subwordSet(w string) map[string]bool {
	found := map[string]bool{}
	for mask := range 1 << len(w) {
		var b []byte
		for i := range len(w) {
			if mask>>i&1 == 1 {
				b = append(b, w[i])
			}
		}
		found[string(b)] = true
	}
	return found
}

func TestIsSubword(t *testing.T) { // P1.4
	for _, w := range samples() {
		found := subwordSet(w)
		for _, u := range slices.Concat(wordsUpTo(4, 2), oddities, []string{w + "a", "a" + w}) {
			if got := word.IsSubword(u, w); got != found[u] {
				t.Errorf("IsSubword(%q, %q) = %v", u, w, got)
			}
		}
		if !word.IsSubword("", w) || !word.IsSubword(w, w) {
			t.Errorf("trivial subwords of %q", w)
		}
	}
	long := strings.Repeat("ab", 50000)
	if !word.IsSubword(strings.Repeat("a", 50000), long) || word.IsSubword(strings.Repeat("a", 50001), long) || !word.IsSubword(strings.Repeat("ba", 49999), long) {
		t.Error("long subwords")
	}
}

// sorted lists the strings of a set whose length passes the test, in shortlex order by its definition.
func sorted(set map[string]bool, keep func(length int) bool) []string {
	var list []string
	for w := range set {
		if keep(len(w)) {
			list = append(list, w)
		}
	}
	slices.SortFunc(list, func(u, v string) int {
		if len(u) != len(v) {
			return len(u) - len(v)
		}
		return strings.Compare(u, v)
	})
	return list
}

func TestSubwords(t *testing.T) { // P1.5
	for _, w := range append(samples(), "abcabcab", "\xffaé\x00") {
		found := subwordSet(w)
		for _, n := range []int{0, 1, 2, 3, len(w) - 1, len(w), len(w) + 1, 1<<63 - 1} {
			if n < 0 {
				continue
			}
			want := sorted(found, func(length int) bool { return length <= n })
			if got := word.Subwords(w, n); !slices.Equal(got, want) {
				t.Errorf("Subwords(%q, %d) = %q, not %q", w, n, got, want)
			}
		}
	}
	for _, n := range []int{-1, -1 << 63} {
		if got := word.Subwords("ab", n); got != nil {
			t.Error(n, got)
		}
	}
}

func TestSubwordsOfLongStrings(t *testing.T) { // P1.5, R4
	distinct := "ponmlkjihgfedcba"
	list := word.Subwords(distinct, 16)
	if len(list) != 1<<16 || list[0] != "" || list[1] != "a" || list[16] != "p" || list[17] != "ba" || list[1<<16-1] != distinct {
		t.Error(len(list))
	}
	if !slices.IsSortedFunc(list, word.Compare) || !slices.Equal(list, word.Subwords(distinct, 100)) {
		t.Error("the subwords of 16 bytes are not sorted, or not the same again")
	}
	pairs := 0
	for mask := range 1 << 16 {
		if bits.OnesCount(uint(mask)) <= 2 {
			pairs++
		}
	}
	if got := word.Subwords(distinct, 2); len(got) != pairs {
		t.Error(len(got), pairs)
	}
	for _, w := range []string{strings.Repeat("a", 17), distinct + "q", strings.Repeat("é", 9), strings.Repeat("ab", 100000)} {
		for _, n := range []int{-1, 0, 1, 16} {
			if got := word.Subwords(w, n); got != nil {
				t.Error(w[:17], n, got)
			}
		}
	}
	if got := word.Subwords(strings.Repeat("é", 8), 1); !slices.Equal(got, []string{"", "\xa9", "\xc3"}) {
		t.Error(got)
	}
}

func TestFactors(t *testing.T) { // P1.5
	for _, w := range append(samples(), "abcabcab", strings.Repeat("ab", 20)) {
		for n := -2; n <= len(w)+2; n++ {
			found := map[string]bool{}
			for i := 0; n >= 0 && i+n <= len(w); i++ {
				found[w[i:i+n]] = true
			}
			want := sorted(found, func(int) bool { return true })
			got := word.Factors(w, n)
			if !slices.Equal(got, want) || (n < 0 || n > len(w)) && got != nil {
				t.Errorf("Factors(%q, %d) = %q, not %q", w, n, got, want)
			}
		}
		for _, n := range []int{-1 << 63, 1<<63 - 1} {
			if got := word.Factors(w, n); got != nil {
				t.Error(w, n, got)
			}
		}
	}
	if got := word.Factors(strings.Repeat("abc", 10000), 2); !slices.Equal(got, []string{"ab", "bc", "ca"}) {
		t.Error(got)
	}
}

func TestRoot(t *testing.T) { // P1.6
	for _, w := range append(samples(), "abcabc", "abcabcab", strings.Repeat("aab", 7), strings.Repeat("\xff\x00", 5)) {
		root, exponent := "", 0
		for n := 1; n <= len(w); n++ {
			if len(w)%n == 0 && strings.Repeat(w[:n], len(w)/n) == w {
				root, exponent = w[:n], len(w)/n
				break
			}
		}
		if r, e := word.Root(w); r != root || e != exponent {
			t.Errorf("Root(%q) = %q, %d, not %q, %d", w, r, e, root, exponent)
		}
	}
	long := strings.Repeat("ab", 100000)
	if r, e := word.Root(long); r != "ab" || e != 100000 {
		t.Error(len(r), e)
	}
	if r, e := word.Root(long + "a"); r != long+"a" || e != 1 {
		t.Error(len(r), e)
	}
}

func TestConjugate(t *testing.T) { // P1.6
	list := samples()
	for _, u := range list {
		rotations := map[string]bool{}
		for i := range len(u) + 1 {
			rotations[u[i:]+u[:i]] = true
		}
		for _, v := range list {
			if got := word.Conjugate(u, v); got != rotations[v] {
				t.Errorf("Conjugate(%q, %q) = %v", u, v, got)
			}
		}
	}
	if word.Conjugate("", "a") || word.Conjugate("a", "") || word.Conjugate("ab", "abab") || word.Conjugate("abc", "ca") || !word.Conjugate("é", "\xa9\xc3") {
		t.Error("strings of different lengths, or bytes beyond ASCII")
	}
}

// occurrences counts the ascending lists of indexes one by one.
func occurrences(u, w string) int {
	if u == "" {
		return 1
	}
	n := 0
	for i := range len(w) {
		if w[i] == u[0] {
			n += occurrences(u[1:], w[i+1:])
		}
	}
	return n
}

func TestOccurrences(t *testing.T) { // P1.7
	for _, w := range append(samples(), "abababab", "aaaaaaaaaa") {
		for _, u := range slices.Concat(wordsUpTo(4, 2), oddities) {
			n := occurrences(u, w)
			for _, m := range []int{1, 2, 3, 5, 1000, 1<<31 - 1, 1 << 31} {
				if got := word.Occurrences(u, w, m); got != n%m {
					t.Errorf("Occurrences(%q, %q, %d) = %d, not %d", u, w, m, got, n%m)
				}
			}
			for _, m := range []int{0, -1, 1<<31 + 1, -1 << 31, 1<<63 - 1, -1 << 63} {
				if got := word.Occurrences(u, w, m); got != 0 {
					t.Errorf("Occurrences(%q, %q, %d) = %d", u, w, m, got)
				}
			}
		}
	}
}

func TestOccurrencesOfLargeNumbers(t *testing.T) { // P1.7, R6
	// The number is the binomial coefficient of 200 and 100, computed by Pascal's triangle modulo m.
	a := func(n int) string { return strings.Repeat("a", n) }
	for _, m := range []int{2, 97, 1000003, 1<<31 - 1, 1 << 31} {
		row := make([]int, 201)
		row[0] = 1
		for range 200 {
			for j := 200; j > 0; j-- {
				row[j] = (row[j] + row[j-1]) % m
			}
		}
		if got := word.Occurrences(a(100), a(200), m); got != row[100]%m {
			t.Error(m, got, row[100])
		}
	}
	if word.Occurrences(a(201), a(200), 7) != 0 || word.Occurrences(a(200), a(200), 7) != 1 || word.Occurrences("ab", a(3000)+strings.Repeat("b", 3000), 1<<31) != 9000000 {
		t.Error("long strings")
	}
}

func TestBorder(t *testing.T) { // P1.8
	for _, w := range append(samples(), "abcabcab", "aabaabaaa", "abacabadabacaba", "\xff\x00\xff") {
		want := 0
		for n := 1; n < len(w); n++ {
			if strings.HasSuffix(w, w[:n]) {
				want = n
			}
		}
		if got := word.Border(w); got != want {
			t.Errorf("Border(%q) = %d, not %d", w, got, want)
		}
	}
	long := strings.Repeat("a", 100000)
	if word.Border(long) != 99999 || word.Border(long+"b") != 0 || word.Border(long+"b"+long) != 100000 {
		t.Error("long strings")
	}
}

func TestExamplesOfTheChapter(t *testing.T) {
	if n, ok := word.Rank("ba", 2); n != 5 || !ok {
		t.Error(n, ok)
	}
	if w, ok := word.Unrank(5, 2); w != "ba" || !ok {
		t.Error(w, ok)
	}
	if l := word.Subwords("aba", 2); !slices.Equal(l, []string{"", "a", "b", "aa", "ab", "ba"}) {
		t.Error(l)
	}
	if r, e := word.Root("ababab"); r != "ab" || e != 3 {
		t.Error(r, e)
	}
	if n := word.Occurrences("ab", "aabb", 100); n != 4 {
		t.Error(n)
	}
	if n := word.Border("abaab"); n != 2 {
		t.Error(n)
	}
}

func TestErrorsAndLimits(t *testing.T) { // the section 'Terms' of the document
	errnos := []api.Errno{api.OK, api.ErrArg, api.ErrSyntax, api.ErrLimit, api.ErrShape, api.ErrAssoc, api.ErrRule, api.ErrBudget, api.ErrProof, api.ErrNone}
	for i, e := range errnos {
		if int(e) != i {
			t.Error(i, e)
		}
	}
	for i, e := range []api.Errno{api.ErrClass, api.ErrTerm, api.ErrGraph, api.ErrCascade, api.ErrSum} {
		if int(e) != 20+i {
			t.Error(i, e)
		}
	}
	if api.MaxLetters != 6 || api.MaxWord != 2048 {
		t.Error(api.MaxLetters, api.MaxWord)
	}
}
