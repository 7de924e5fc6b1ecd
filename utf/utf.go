// Package utf: Text as runes: see doc/01-utf.md.
package utf

import (
	"strings"
	"unicode/utf8"
)

// Check tells the place of the first byte of b that is no part of a whole
// rune, or that is 0; -1, if there is none.
func Check(b []byte) int {
	s := string(b)
	for i, r := range s {
		if r == 0 || r == utf8.RuneError && !beginsWithReplacement(s[i:]) {
			return i
		}
	}
	return -1
}

// beginsWithReplacement: does s begin with the bytes of U+FFFD? A range tells
// a broken byte as that rune too, so that only the bytes part the two.
func beginsWithReplacement(s string) bool {
	return strings.HasPrefix(s, string(utf8.RuneError))
}

// Count tells how many runes s has.
func Count(s string) int {
	n := 0
	for range s {
		n++
	}
	return n
}

// Runes tells all runes of s.
func Runes(s string) []rune {
	return []rune(s)
}

// Cut tells what of s stands ahead of its n-th rune: nothing of n below 0, all
// of it of n above Count.
func Cut(s string, n int) string {
	if n < 0 {
		return ""
	}
	at := Place(s, n)
	if at < 0 {
		at = len(s)
	}
	// A clone, since an answer shares no memory with what was handed in.
	return strings.Clone(s[:at])
}

// Place tells the place of the first byte of the n-th rune of s, the length of
// s of n Count; -1 of others.
func Place(s string, n int) int {
	k := 0
	for i := range s {
		if k == n {
			return i
		}
		k++
	}
	if k == n {
		return len(s)
	}
	return -1
}

// Back tells a text of the runes of l; of those that can't be U+FFFD.
func Back(l []rune) string {
	return string(l)
}
