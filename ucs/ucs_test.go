package ucs_test

import (
	"math"
	"strings"
	"testing"

	"phalarope/ucs"
)

// mayBe is RFC 6570's grammar, ucschar and iprivate each by its own lines there, so that it can be held against the package's ranges.
func mayBe(c int) bool {
	in := func(low, high int) bool { return low <= c && c <= high }
	plane, rest := c>>16, c&0xFFFF
	ucschar := in(0xA0, 0xD7FF) || in(0xF900, 0xFDCF) || in(0xFDF0, 0xFFEF) ||
		1 <= plane && plane <= 0xD && rest <= 0xFFFD || in(0xE1000, 0xEFFFD)
	iprivate := in(0xE000, 0xF8FF) || in(0xF0000, 0xFFFFD) || in(0x100000, 0x10FFFD)
	return ucschar || iprivate
}

// charBytes writes the bytes of a character by the words of the chapter on utf.
func charBytes(c int) string {
	low := func(bits int) byte { return byte(0x80 + c>>bits&0x3F) }
	switch {
	case c < 0x80:
		return string([]byte{byte(c)})
	case c < 0x800:
		return string([]byte{byte(0xC0 + c>>6), low(0)})
	case c < 0x10000:
		return string([]byte{byte(0xE0 + c>>12), low(6), low(0)})
	}
	return string([]byte{byte(0xF0 + c>>18), low(12), low(6), low(0)})
}

func isChar(c int) bool {
	return 0 <= c && c <= 0x10FFFF && (c < 0xD800 || 0xDFFF < c)
}

// begins are all begins, but for the empty one, of the bytes of the characters that may.
func begins() map[string]bool {
	all := make(map[string]bool, 1200000)
	for c := range 0x110000 {
		if !mayBe(c) {
			continue
		}
		s := charBytes(c)
		for n := 1; n <= len(s); n++ {
			all[s[:n]] = true
		}
	}
	return all
}

// edgeBytes are those at which the rules for bytes change, and their neighbours.
func edgeBytes() []byte {
	return []byte{
		0x00, 0x41, 0x7F, 0x80, 0x81, 0x8F, 0x90, 0x9F, 0xA0, 0xA1, 0xAF, 0xB0, 0xB7, 0xBD, 0xBE, 0xBF, 0xC0, 0xC1, 0xC2, 0xC3, 0xDF,
		0xE0, 0xE1, 0xEC, 0xED, 0xEE, 0xEF, 0xF0, 0xF1, 0xF3, 0xF4, 0xF5, 0xF7, 0xF8, 0xFB, 0xFC, 0xFF,
	}
}

// shortTexts tells the empty text, all of two bytes at most, and all of three and of four that edge bytes make.
func shortTexts(tell func(s string)) {
	tell("")
	for a := range 256 {
		tell(string([]byte{byte(a)}))
		for b := range 256 {
			tell(string([]byte{byte(a), byte(b)}))
		}
	}
	edges := edgeBytes()
	for _, a := range edges {
		for _, b := range edges {
			for _, c := range edges {
				tell(string([]byte{a, b, c}))
				for _, d := range edges {
					tell(string([]byte{a, b, c, d}))
				}
			}
		}
	}
}

// P4.1: every number about and between the ranges may, or may not, as the RFC has it.
func TestMay(t *testing.T) {
	for c := -0x1000; c < 0x120000; c++ {
		if ucs.May(c) != mayBe(c) {
			t.Fatalf("May(%#x) = %v", c, ucs.May(c))
		}
	}
	wide := math.MaxUint32
	for _, c := range []int{
		math.MinInt, math.MinInt32, math.MaxInt32, math.MaxInt, 0x110000, 0x11FFFD,
		// These would be in a range if their high bits were lost.
		wide + 1 + 0xE9, -wide - 1 + 0xE9, math.MinInt + 0xE9,
	} {
		if ucs.May(c) {
			t.Errorf("May(%#x)", c)
		}
	}
}

// P4.1: the chapter's ranges, each by its ends and what stands beside these.
func TestMayAtEnds(t *testing.T) {
	type ends struct{ low, high int }
	l := []ends{{0xA0, 0xD7FF}, {0xE000, 0xFDCF}, {0xFDF0, 0xFFEF}, {0xE1000, 0xEFFFD}, {0xF0000, 0xFFFFD}, {0x100000, 0x10FFFD}}
	for plane := 1; plane <= 0xD; plane++ {
		l = append(l, ends{plane * 0x10000, plane*0x10000 + 0xFFFD})
	}
	for _, e := range l {
		if !ucs.May(e.low) || !ucs.May(e.low+1) || !ucs.May(e.high-1) || !ucs.May(e.high) {
			t.Errorf("from %#x to %#x: an end may not", e.low, e.high)
		}
		if ucs.May(e.low-1) || ucs.May(e.high+1) {
			t.Errorf("from %#x to %#x: what stands beside an end may", e.low, e.high)
		}
	}
}

// P4.1, P4.2: each character is taken, and fits, just if it may, alone and ahead of other bytes.
func TestEachCharacter(t *testing.T) {
	for c := range 0x110000 {
		if !isChar(c) {
			continue
		}
		s, want, size := charBytes(c), 0, 0
		if mayBe(c) {
			want, size = c, len(s)
		}
		for _, behind := range []string{"", "a", "\u00e9", "\x80", "\xFF"} {
			if got, n := ucs.Take(s + behind); got != want || n != size {
				t.Fatalf("Take(%q) = %#x, %d", s+behind, got, n)
			}
		}
		if ucs.Fits(s) != mayBe(c) {
			t.Fatalf("Fits(%q) = %v", s, ucs.Fits(s))
		}
	}
}

// P4.1: of short texts of all sorts just those begin with a character that may that begin with its bytes.
func TestTakeShort(t *testing.T) {
	all := make(map[string]int, 1200000)
	for c := range 0x110000 {
		if mayBe(c) {
			all[charBytes(c)] = c
		}
	}
	shortTexts(func(s string) {
		want, size := 0, 0
		for n := 1; n <= len(s); n++ {
			if c, ok := all[s[:n]]; ok {
				want, size = c, n
			}
		}
		if c, n := ucs.Take(s); c != want || n != size {
			t.Fatalf("Take(%q) = %#x, %d, not %#x, %d", s, c, n, want, size)
		}
	})
}

// P4.1: what is taken is the first character alone; there is none, where other bytes stand ahead of it, or it is cut off.
func TestTakeExamples(t *testing.T) {
	for _, x := range []struct {
		s    string
		c, n int
	}{
		{"", 0, 0}, {"\x00", 0, 0}, {"a", 0, 0}, {"a\u00e9", 0, 0}, {"\x7F", 0, 0},
		{"\u00e9", 0xE9, 2}, {"\u00e9\u20ac", 0xE9, 2}, {"\u20ac\xFF", 0x20AC, 3}, {"\U0001F426\xF0", 0x1F426, 4},
		{"\uFFFDa", 0, 0}, {"\uFFEFa", 0xFFEF, 3},
		{"\u0080", 0, 0}, {"\u009f", 0, 0}, {"\u00a0", 0xA0, 2},
		{"\xC3", 0, 0}, {"\xC3a", 0, 0}, {"\xE2\x82", 0, 0}, {"\xE2\x82\u20ac", 0, 0}, {"\xF0\x9F\x90", 0, 0}, {"\x80", 0, 0}, {"\xFF\u00e9", 0, 0},
		{"\xC1\xA0", 0, 0}, {"\xE0\x83\xA9", 0, 0}, {"\xF0\x80\x83\xA9", 0, 0}, {"\xED\xA0\x80", 0, 0}, {"\xF4\x90\x80\x80", 0, 0},
		{"\xF3\xA0\xBF\xBF", 0, 0}, {"\xF3\xA1\x80\x80", 0xE1000, 4}, {"\xF4\x8F\xBF\xBD", 0x10FFFD, 4}, {"\xF4\x8F\xBF\xBE", 0, 0},
	} {
		if c, n := ucs.Take(x.s); c != x.c || n != x.n {
			t.Errorf("Take(%q) = %#x, %d", x.s, c, n)
		}
	}
}

// P4.2: the chapter's examples, and the edges of what begins a character's bytes.
func TestFitsExamples(t *testing.T) {
	for _, s := range []string{
		"\xC2", "\xC2\xA0", "\xC3", "\xDF\xBF", "\xE0", "\xE0\xA0", "\xE0\xA0\x80", "\xED", "\xED\x9F", "\xED\x9F\xBF", "\xEE\x80\x80",
		"\xEF\xB7", "\xEF\xB7\x8F", "\xEF\xB7\xB0", "\xEF\xBF", "\xEF\xBF\xAF",
		"\xF0", "\xF0\x90", "\xF0\x90\x80", "\xF0\x90\x80\x80", "\xF0\x9F\xBF", "\xF0\x9F\xBF\xBD",
		"\xF3", "\xF3\x9F\xBF\xBD", "\xF3\xA1", "\xF3\xA1\x80", "\xF3\xA1\x80\x80", "\xF4", "\xF4\x8F", "\xF4\x8F\xBF", "\xF4\x8F\xBF\xBD",
	} {
		if !ucs.Fits(s) {
			t.Errorf("%q doesn't fit", s)
		}
	}
	for _, s := range []string{
		"", "\x00", "a", "\x7F", "\x80", "\xA0", "\xBF", "\xC0", "\xC0\xA0", "\xC1", "\xC1\xBF",
		"\xC2\x80", "\xC2\x9F", "\xC2\xC2", "\xC2a", "\xC2\xA0\x80", "\xC2\xA0a", "\xC3\xA9\xC3",
		"\xE0\x80", "\xE0\x82", "\xE0\x82\xA0", "\xE0\x9F", "\xE0\x9F\xBF", "\xE0\xC0", "\xED\xA0", "\xED\xA0\x80", "\xED\xBF", "\xE2\x82a", "\xE2\x82\xAC\xAC",
		"\xEF\xB7\x90", "\xEF\xB7\xAF", "\xEF\xBF\xB0", "\xEF\xBF\xBD", "\xEF\xBF\xBF",
		"\xF0\x80", "\xF0\x82\x82\xA0", "\xF0\x8F", "\xF0\x8F\xBF\xBF", "\xF0\x9F\xBF\xBE", "\xF0\x9F\x90\xA6\xA6", "\xF0\x9F\x90\xA6a",
		"\xF3\xA0", "\xF3\xA0\x80", "\xF3\xA0\x80\x80", "\xF3\xA0\xBF\xBF", "\xF4\x8F\xBF\xBE", "\xF4\x90", "\xF5", "\xF7", "\xF8", "\xFC", "\xFE", "\xFF",
	} {
		if ucs.Fits(s) {
			t.Errorf("%q fits", s)
		}
	}
}

// P4.2: of short texts just those fit that are found among all begins; so it is with all texts that have a byte more than what begins a character's bytes.
func TestFitsShort(t *testing.T) {
	all := begins()
	check := func(s string) {
		if ucs.Fits(s) != all[s] {
			t.Fatalf("Fits(%q) = %v", s, ucs.Fits(s))
		}
	}
	shortTexts(check)
	for s := range all {
		if _, n := ucs.Take(s); n != 0 {
			check(s + "\x80")
			check(s + "\xBFa")
			continue
		}
		for c := range 256 {
			check(s + string([]byte{byte(c)}))
		}
	}
}

// goesOn tells whether s with some byte behind it fits.
func goesOn(s string) bool {
	for c := range 256 {
		if ucs.Fits(s + string([]byte{byte(c)})) {
			return true
		}
	}
	return false
}

// P4.3: what fits, without its last byte, fits, but for nothing; it is a character's bytes, behind which nothing fits, or fewer, behind which something does.
func TestFitsFollows(t *testing.T) {
	for s := range begins() {
		if shorter := s[:len(s)-1]; shorter != "" && !ucs.Fits(shorter) {
			t.Fatalf("%q fits, but not without its last byte", s)
		}
		c, n := ucs.Take(s)
		if n == 0 && !goesOn(s) {
			t.Fatalf("%q fits, but is neither a character nor goes on", s)
		}
		if n != 0 && (n != len(s) || charBytes(c) != s) {
			t.Fatalf("%q fits, but has more bytes than its character", s)
		}
		if n != 0 && c%97 == 0 && goesOn(s) {
			t.Fatalf("%q is a character, but goes on", s)
		}
	}
	if ucs.Fits("") {
		t.Error("nothing fits")
	}
}

// P1: long texts end, and soon: no more is read than a character's bytes.
func TestLong(t *testing.T) {
	for _, s := range []string{"\u00e9", "\xFF", "\x80", "a", "\xF0", "\xF4\x8F\xBF\xBD"} {
		long := strings.Repeat(s, 1000000)
		wantChar, wantSize := ucs.Take(s)
		for range 10000 {
			if c, n := ucs.Take(long); c != wantChar || n != wantSize {
				t.Fatalf("Take of many %q = %#x, %d", s, c, n)
			}
			if ucs.Fits(long) {
				t.Fatalf("many %q fit", s)
			}
		}
	}
}
