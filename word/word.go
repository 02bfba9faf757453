// Package word is layer 1: words over small alphabets and their order. See shared/doc/01-word.md.
package word

import (
	"cmp"
	"maps"
	"slices"
	"strings"

	"semigroup/api"
)

const (
	maxRank    = 1 << 62 // the greatest number that Rank returns
	maxListed  = 16      // the length of the longest string whose subwords are listed
	maxModulus = 1 << 31 // the greatest modulus of Occurrences
)

// Valid reports whether w is a word over the first letters of the alphabet.
func Valid(w string, letters int) bool {
	if !validLetters(letters) || len(w) > api.MaxWord {
		return false
	}
	for i := range len(w) {
		if w[i] < 'a' || int(w[i]) >= 'a'+letters {
			return false
		}
	}
	return true
}

func validLetters(letters int) bool {
	return letters >= 1 && letters <= api.MaxLetters
}

// Compare compares two strings in shortlex order.
func Compare(u, v string) int {
	if len(u) != len(v) {
		return cmp.Compare(len(u), len(v))
	}
	return strings.Compare(u, v)
}

// Rank returns the number of words before w, and false if w is no word or the number is too great.
func Rank(w string, letters int) (int, bool) {
	if !Valid(w, letters) {
		return 0, false
	}
	// In shortlex order a word is its rank, written with the digits 1 to letters.
	rank := 0
	for i := range len(w) {
		digit := int(w[i]-'a') + 1
		// Dividing the limit, since the product could overflow.
		if rank > (maxRank-digit)/letters {
			return 0, false
		}
		rank = rank*letters + digit
	}
	return rank, true
}

// Unrank returns the word with a rank, and false if there is none.
func Unrank(n, letters int) (string, bool) {
	if !validLetters(letters) || n < 0 || n > maxRank {
		return "", false
	}
	var w []byte
	for n > 0 {
		// Over one letter the length is the rank, which could be enormous.
		if len(w) == api.MaxWord {
			return "", false
		}
		n-- // the digits begin with 1
		w = append(w, 'a'+byte(n%letters))
		n /= letters
	}
	slices.Reverse(w)
	return string(w), true
}

// Reverse returns the bytes of w in reverse order.
func Reverse(w string) string {
	b := []byte(w)
	slices.Reverse(b)
	return string(b)
}

// IsFactor reports whether u is a factor of w.
func IsFactor(u, w string) bool {
	return strings.Contains(w, u)
}

// IsSubword reports whether u is a subword of w.
func IsSubword(u, w string) bool {
	matched := 0
	for i := 0; i < len(w) && matched < len(u); i++ {
		if w[i] == u[matched] {
			matched++
		}
	}
	return matched == len(u)
}

// Subwords returns the distinct subwords of w of length at most n in shortlex order.
func Subwords(w string, n int) []string {
	if n < 0 || len(w) > maxListed {
		return nil
	}
	found := map[string]bool{"": true}
	for i := range len(w) {
		// A list of the keys, since the map grows.
		for _, s := range slices.Collect(maps.Keys(found)) {
			if len(s) < n {
				found[s+w[i:i+1]] = true
			}
		}
	}
	return slices.SortedFunc(maps.Keys(found), Compare)
}

// Factors returns the distinct factors of w of length n in ascending order.
func Factors(w string, n int) []string {
	if n < 0 || n > len(w) {
		return nil
	}
	found := map[string]bool{}
	for i := range len(w) - n + 1 {
		found[w[i:i+n]] = true
	}
	return slices.Sorted(maps.Keys(found))
}

// Root returns the primitive root of w and its exponent.
func Root(w string) (string, int) {
	if w == "" {
		return "", 0
	}
	// The least period of w belongs to its longest border.
	period := len(w) - Border(w)
	if len(w)%period != 0 {
		return w, 1
	}
	return w[:period], len(w) / period
}

// Conjugate reports whether v is a rotation of u.
func Conjugate(u, v string) bool {
	return len(u) == len(v) && strings.Contains(u+u, v)
}

// Occurrences counts the occurrences of u as a subword of w, modulo m.
func Occurrences(u, w string, m int) int {
	if m < 1 || m > maxModulus {
		return 0
	}
	// counts[j] is the number of occurrences of u[:j] in the part of w that has been read.
	counts := make([]int, len(u)+1)
	counts[0] = 1 % m
	for i := range len(w) {
		// Downwards, so that one byte of w is not used for two bytes of u.
		for j := min(i+1, len(u)); j > 0; j-- {
			if u[j-1] == w[i] {
				counts[j] = (counts[j] + counts[j-1]) % m
			}
		}
	}
	return counts[len(u)]
}

// Border returns the length of the longest border of w.
func Border(w string) int {
	if w == "" {
		return 0
	}
	// borders[i] is the length of the longest border of w[:i+1].
	borders := make([]int, len(w))
	for i := 1; i < len(w); i++ {
		k := borders[i-1]
		for k > 0 && w[k] != w[i] {
			k = borders[k-1]
		}
		if w[k] == w[i] {
			k++
		}
		borders[i] = k
	}
	return borders[len(w)-1]
}
