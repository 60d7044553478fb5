// Package utf is layer 1: see shared/doc/01-utf.md.
package utf

import "strings"

// The numbers that bound the characters, and the gap among them.
const (
	lastChar = 0x10FFFF
	gapBegin = 0xD800
	gapEnd   = 0xDFFF
)

// What a range over a text tells for bytes that are no character's, and this one's own bytes.
const (
	standIn      = '\uFFFD'
	standInBytes = "\uFFFD"
)

// Chars are a text's characters; false: it is no valid UTF-8.
func Chars(s string) ([]int, bool) {
	var l []int
	end := each(s, func(c rune) bool {
		l = append(l, int(c))
		return true
	})
	if end < len(s) {
		return nil, false
	}
	return l, true
}

// Text is characters as a text; false: one of them is none.
func Text(l []int) (string, bool) {
	var b strings.Builder
	for _, c := range l {
		// Asked ahead of the conversion, which would turn a number that is too great into another one.
		if !May(c) {
			return "", false
		}
		b.WriteRune(rune(c))
	}
	return b.String(), true
}

// May tells whether a number is a character.
func May(c int) bool {
	return 0 <= c && c <= lastChar && (c < gapBegin || gapEnd < c)
}

// Valid tells whether a text is valid, Bad how long its longest valid begin is.
func Valid(s string) bool { return Bad(s) == len(s) }

func Bad(s string) int {
	return each(s, func(rune) bool { return true })
}

// Count is how many characters the longest valid begin has, Prefix its first ones.
func Count(s string) int {
	n := 0
	each(s, func(rune) bool {
		n++
		return true
	})
	return n
}

func Prefix(s string, most int) string {
	n := 0
	end := each(s, func(rune) bool {
		n++
		return n <= most
	})
	// A copy, so that a short prefix does not keep all of a long text alive.
	return strings.Clone(s[:end])
}

// each hands the characters of the longest valid begin of s to take, in turn, till that refuses one; it answers how many bytes those have that were taken.
func each(s string, take func(c rune) bool) int {
	for at, c := range s {
		if broken(c, s[at:]) || !take(c) {
			return at
		}
	}
	return len(s)
}

// broken tells whether c, ranged over at the begin of rest, stands in for bytes that are no character's: the stand-in is a character too, so its own bytes have to be told apart from these.
func broken(c rune, rest string) bool {
	return c == standIn && !strings.HasPrefix(rest, standInBytes)
}
