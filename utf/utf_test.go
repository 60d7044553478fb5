package utf

import (
	"math"
	"slices"
	"strings"
	"testing"
)

// charBytes writes the bytes of a character by the chapter's words alone, so that it can be held against what the package does.
func charBytes(c int) string {
	low := func(bits int) byte { return byte(0x80 + c>>bits&0x3F) }
	switch {
	case c < 0x80:
		return string([]byte{byte(c)})
	case c < 0x800:
		return string([]byte{byte(0xC0 + c>>6), low(0)})
	case c < 0x10000:
		return string([]byte{byte(0xE0 + c>>12), low(6), low(0)})
	}
	return string([]byte{byte(0xF0 + c>>18), low(12), low(6), low(0)})
}

func isChar(c int) bool {
	return c >= 0 && c <= 1114111 && !(c >= 55296 && c <= 57343)
}

// allChars are all characters by their bytes.
func allChars() map[string]int {
	all := make(map[string]int, 1112064)
	for c := range 0x110000 {
		if isChar(c) {
			all[charBytes(c)] = c
		}
	}
	return all
}

// longest is the longest begin of s that is characters' bytes, and these characters.
func longest(all map[string]int, s string) (int, []int) {
	at, l := 0, []int(nil)
next:
	for at < len(s) {
		for n := 1; n <= 4 && at+n <= len(s); n++ {
			if c, ok := all[s[at:at+n]]; ok {
				at, l = at+n, append(l, c)
				continue next
			}
		}
		break
	}
	return at, l
}

// P1.1: every number about and between the bounds is a character, or none, as the chapter says.
func TestMay(t *testing.T) {
	for c := -0x1000; c < 0x120000; c++ {
		if May(c) != isChar(c) {
			t.Fatalf("May(%#x) = %v", c, May(c))
		}
	}
	for _, c := range noChars() {
		if May(c) {
			t.Errorf("May(%#x)", c)
		}
	}
}

// noChars are numbers that are no characters, among them such as would be one if their high bits were lost.
func noChars() []int {
	l := []int{-1, 0xD800, 0xDBFF, 0xDC00, 0xDFFF, 0x110000, math.MinInt32, math.MaxInt32, math.MinInt, math.MaxInt}
	wide := math.MaxUint32
	return append(l, wide+1, wide+1+'a', -wide-1+'a', math.MinInt+'a')
}

// P1.1, P1.3: each character alone is told there and back, by the bytes that the chapter says.
func TestEachCharacter(t *testing.T) {
	for c := range 0x110000 {
		if !isChar(c) {
			continue
		}
		want := charBytes(c)
		if s, ok := Text([]int{c}); !ok || s != want {
			t.Fatalf("Text(%#x) = %q, %v", c, s, ok)
		}
		if l, ok := Chars(want); !ok || len(l) != 1 || l[0] != c {
			t.Fatalf("Chars(%q) = %v, %v", want, l, ok)
		}
		if !Valid(want) || Bad(want) != len(want) || Count(want) != 1 || Prefix(want, 1) != want {
			t.Fatalf("%q isn't one character", want)
		}
	}
}

// P1.1: the first and last numbers of each length, spelt out.
func TestLengthEdges(t *testing.T) {
	for _, x := range []struct {
		c int
		s string
	}{
		{0, "\x00"}, {0x7F, "\x7F"},
		{0x80, "\xC2\x80"}, {0xE9, "\xC3\xA9"}, {0x7FF, "\xDF\xBF"},
		{0x800, "\xE0\xA0\x80"}, {0xD7FF, "\xED\x9F\xBF"}, {0xE000, "\xEE\x80\x80"}, {0xFFFD, "\xEF\xBF\xBD"}, {0xFFFF, "\xEF\xBF\xBF"},
		{0x10000, "\xF0\x90\x80\x80"}, {0x10FFFF, "\xF4\x8F\xBF\xBF"},
	} {
		if s, ok := Text([]int{x.c}); !ok || s != x.s {
			t.Errorf("Text(%#x) = %q, %v", x.c, s, ok)
		}
		if l, ok := Chars(x.s); !ok || len(l) != 1 || l[0] != x.c {
			t.Errorf("Chars(%q) = %v, %v", x.s, l, ok)
		}
	}
}

// P1.1: a list with one number that is no character tells nothing, wherever it stands; no number tells no byte.
func TestTextOfLists(t *testing.T) {
	if s, ok := Text(nil); !ok || s != "" {
		t.Errorf("Text(nil) = %q, %v", s, ok)
	}
	if s, ok := Text([]int{}); !ok || s != "" {
		t.Errorf("Text of an empty list = %q, %v", s, ok)
	}
	if s, ok := Text([]int{'a', 0xE9, 0x20AC, 0x1F426, 'b'}); !ok || s != "a\u00e9\u20ac\U0001F426b" {
		t.Errorf("Text = %q, %v", s, ok)
	}
	for _, c := range noChars() {
		for _, l := range [][]int{{c}, {c, 'a'}, {'a', c}, {0xE9, c, 0x10FFFF}} {
			if s, ok := Text(l); ok || s != "" {
				t.Errorf("Text(%#x) = %q, %v", l, s, ok)
			}
		}
	}
}

// P1.1: texts that are not valid have no characters, also where they begin with some.
func TestCharsOfBadTexts(t *testing.T) {
	for _, s := range badTexts() {
		for _, ahead := range []string{"", "a", "\u00e9", "\uFFFD"} {
			if l, ok := Chars(ahead + s); ok || len(l) != 0 {
				t.Errorf("Chars(%q) = %v, %v", ahead+s, l, ok)
			}
			if Valid(ahead+s) || Bad(ahead+s) != len(ahead) {
				t.Errorf("%q: valid %v, bad at %d", ahead+s, Valid(ahead+s), Bad(ahead+s))
			}
		}
	}
	if l, ok := Chars(""); !ok || len(l) != 0 || !Valid("") {
		t.Errorf("Chars of nothing = %v, %v", l, ok)
	}
}

// badTexts begin with bytes that are no character's: cut off, without a begin, longer than need be, from 0xD800 to 0xDFFF, beyond 0x10FFFF.
func badTexts() []string {
	return []string{
		"\xC3", "\xC3a", "\xC3\xC3\xA9", "\xE2\x82", "\xE2\x82a", "\xE2a\x82", "\xEF\xBF", "\xF0\x9F\x90", "\xF0\x9F\x90a", "\xF4\x8F\xBF",
		"\x80", "\xBF", "\x80a", "\xA9\xC3",
		"\xC0\x80", "\xC0\xAF", "\xC1\xBF", "\xE0\x80\x80", "\xE0\x9F\xBF", "\xF0\x80\x80\x80", "\xF0\x8F\xBF\xBF",
		"\xED\xA0\x80", "\xED\xAF\xBF", "\xED\xB0\x80", "\xED\xBF\xBF", "\xED\xA0\xBD\xED\xB0\x80",
		"\xF4\x90\x80\x80", "\xF5\x80\x80\x80", "\xF7\xBF\xBF\xBF", "\xF8\x88\x80\x80\x80", "\xFE", "\xFF",
	}
}

// edgeBytes are those at which the rules for bytes change, and their neighbours.
func edgeBytes() []byte {
	return []byte{
		0x00, 0x41, 0x7F, 0x80, 0x8F, 0x90, 0x9F, 0xA0, 0xBD, 0xBE, 0xBF, 0xC0, 0xC1, 0xC2, 0xDF,
		0xE0, 0xE1, 0xEC, 0xED, 0xEE, 0xEF, 0xF0, 0xF1, 0xF3, 0xF4, 0xF5, 0xF7, 0xF8, 0xFF,
	}
}

// P1.1, P1.2: every text of two bytes, and every one of up to four bytes of the edges, is told as the chapter's words have it.
func TestAllShortTexts(t *testing.T) {
	all := allChars()
	for a := range 256 {
		checkText(t, all, string([]byte{byte(a)}))
		for b := range 256 {
			checkText(t, all, string([]byte{byte(a), byte(b)}))
		}
	}
	texts := []string{""}
	for range 4 {
		var longer []string
		for _, s := range texts {
			for _, c := range edgeBytes() {
				longer = append(longer, s+string([]byte{c}))
			}
		}
		for _, s := range longer {
			checkText(t, all, s)
		}
		if t.Failed() {
			return
		}
		texts = longer
	}
	for i, s := range texts {
		if i%7 == 0 {
			checkText(t, all, s+"a\xEF\xBF\xBD\xFF")
		}
	}
}

// checkText holds all that is told of s against what is found by trying out.
func checkText(t *testing.T, all map[string]int, s string) {
	bad, chars := longest(all, s)
	valid := bad == len(s)
	if Bad(s) != bad || Count(s) != len(chars) || Valid(s) != valid {
		t.Errorf("%q: Bad %d, Count %d, Valid %v", s, Bad(s), Count(s), Valid(s))
	}
	l, ok := Chars(s)
	if ok != valid || ok && !slices.Equal(l, chars) || !ok && len(l) != 0 {
		t.Errorf("%q: Chars %v, %v", s, l, ok)
	}
	want := ""
	for most := -1; most <= len(chars)+1; most++ {
		if most >= 1 && most <= len(chars) {
			want += charBytes(chars[most-1])
		}
		if got := Prefix(s, most); got != want {
			t.Errorf("Prefix(%q, %d) = %q", s, most, got)
		}
	}
}

// P1.2: prefixes are counted by characters and end where the text is no longer valid.
func TestPrefix(t *testing.T) {
	mixed := "a\u00e9\u20ac\U0001F426\uFFFD"
	for _, x := range []struct {
		s    string
		most int
		want string
	}{
		{mixed, math.MinInt, ""}, {mixed, -1, ""}, {mixed, 0, ""},
		{mixed, 1, "a"}, {mixed, 2, "a\u00e9"}, {mixed, 3, "a\u00e9\u20ac"}, {mixed, 4, "a\u00e9\u20ac\U0001F426"},
		{mixed, 5, mixed}, {mixed, 6, mixed}, {mixed, math.MaxInt, mixed},
		{"\u00e9b\xFFc", 1, "\u00e9"}, {"\u00e9b\xFFc", 2, "\u00e9b"}, {"\u00e9b\xFFc", 3, "\u00e9b"}, {"\u00e9b\xFFc", math.MaxInt, "\u00e9b"},
		{"\xC3", 1, ""}, {"", 1, ""}, {"", 0, ""}, {"", math.MaxInt, ""},
	} {
		if got := Prefix(x.s, x.most); got != x.want {
			t.Errorf("Prefix(%q, %d) = %q", x.s, x.most, got)
		}
	}
}

// P1.2: Bad and Count speak of the valid begin, not of what comes behind it.
func TestBadAndCount(t *testing.T) {
	for _, x := range []struct {
		s          string
		bad, count int
	}{
		{"", 0, 0}, {"abc", 3, 3}, {"a\u00e9\u20ac\U0001F426", 10, 4}, {"\uFFFD\uFFFD", 6, 2},
		{"ab\xFFcd", 2, 2}, {"\u20ac\xE2\x82", 3, 1}, {"\xFFabc", 0, 0}, {"\uFFFD\xEF\xBF", 3, 1},
	} {
		if Bad(x.s) != x.bad || Count(x.s) != x.count || Valid(x.s) != (x.bad == len(x.s)) {
			t.Errorf("%q: Bad %d, Count %d, Valid %v", x.s, Bad(x.s), Count(x.s), Valid(x.s))
		}
	}
}

// P1.3, P8: what is told of texts leads back to them, and what is told of characters to these.
func TestThereAndBack(t *testing.T) {
	var l []int
	for c := 0; c < 0x110000; c += 61 {
		if isChar(c) {
			l = append(l, c)
		}
	}
	s, ok := Text(l)
	if !ok {
		t.Fatal("no text")
	}
	back, ok := Chars(s)
	if !ok || !slices.Equal(back, l) || Count(s) != len(l) {
		t.Fatal("other characters")
	}
	if again, ok := Text(back); !ok || again != s {
		t.Fatal("another text")
	}
}

// P1.3: behind a valid text another one is valid just if it is so alone; so it is with what else is told of it.
func TestOneBehindTheOther(t *testing.T) {
	good := []string{"", "a", "\u0080", "\u07ff", "\u0800", "\uFFFD", "\uffff", "\U00010000", "\U0010ffff", "ab\u00e9"}
	for _, a := range good {
		for _, b := range append(badTexts(), good...) {
			if !Valid(a) || Valid(a+b) != Valid(b) {
				t.Errorf("Valid(%q) = %v", a+b, Valid(a+b))
			}
			if Bad(a+b) != len(a)+Bad(b) || Count(a+b) != Count(a)+Count(b) || Prefix(a+b, Count(a)) != a {
				t.Errorf("%q behind %q", b, a)
			}
		}
	}
}

// R3: what is handed in stays as it is, and what is told is new each time.
func TestNothingShared(t *testing.T) {
	l := []int{'a', 0xD800, 'b'}
	Text(l)
	if !slices.Equal(l, []int{'a', 0xD800, 'b'}) {
		t.Error("the list was changed")
	}
	first, _ := Chars("ab")
	first[0] = 'x'
	if second, _ := Chars("ab"); second[0] != 'a' {
		t.Error("two answers share memory")
	}
}

// P1: long texts, valid or not, end.
func TestLongTexts(t *testing.T) {
	const n = 300000
	s := strings.Repeat("\u20ac", n)
	if Bad(s+"\xFF") != 3*n || Count(s+"\xFF") != n || Valid(s+"\xFF") || !Valid(s) || len(Prefix(s, n-1)) != 3*n-3 {
		t.Error("a long text")
	}
	if Bad(strings.Repeat("\xFF", n)) != 0 || Prefix(strings.Repeat("\x80", n), n) != "" {
		t.Error("a long text that is not valid")
	}
}
