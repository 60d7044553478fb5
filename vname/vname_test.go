package vname_test

import (
	"regexp"
	"slices"
	"strings"
	"testing"

	"phalarope/vname"
)

// aName is the chapter's words by a regular expression, apart from the way that the package takes; what is not ASCII is in no name, be it bytes or characters.
var aName = regexp.MustCompile(`^([A-Za-z0-9_]|%[0-9A-Fa-f]{2})(\.?([A-Za-z0-9_]|%[0-9A-Fa-f]{2}))*$`)

// beginsName tells whether a text could still be a name: with nothing behind it, with a character, or with what a triplet lacks.
func beginsName(s string) bool {
	return slices.ContainsFunc([]string{"", "a", "1", "41"}, func(more string) bool { return aName.MatchString(s + more) })
}

// longest is how many bytes the longest begin of a text has that is as asked; 0, if none is.
func longest(s string, asked func(begin string) bool) int {
	for n := len(s); n > 0; n-- {
		if asked(s[:n]) {
			return n
		}
	}
	return 0
}

// allTexts tells every text of at most n of the bytes.
func allTexts(bytes string, n int, tell func(s string)) {
	var grow func(s string, n int)
	grow = func(s string, n int) {
		tell(s)
		if n == 0 {
			return
		}
		for i := range len(bytes) {
			grow(s+bytes[i:i+1], n-1)
		}
	}
	grow("", n)
}

// manyTexts tells texts that hold names, what is nearly one, and all bytes, ahead of, in, and behind what else would be one.
func manyTexts(tell func(s string)) {
	allTexts("%4ag_.-", 5, tell)
	allTexts("a.", 10, tell)
	for a := range 256 {
		one := string([]byte{byte(a)})
		for _, x := range []string{"", "a", ".", "a.", "%41", "%4", "%"} {
			for _, y := range []string{"", "a", ".", ".a", "%41", "1", "41"} {
				tell(x + one + y)
			}
		}
		for b := range 256 {
			tell(string([]byte{'%', byte(a), byte(b)}))
			tell(string([]byte{byte(a), byte(b)}))
		}
	}
}

// P5.1: May, Bad and End by hand.
func TestExamples(t *testing.T) {
	for _, x := range []struct {
		s        string
		may      bool
		bad, end int
	}{
		{"", false, 0, 0},
		{"a", true, 1, 1},
		{"_", true, 1, 1},
		{"0", true, 1, 1},
		{"a.b", true, 3, 3},
		{"%41_", true, 4, 4},
		{"%aF.%Fa", true, 7, 7},
		{"a.b.c.%20", true, 9, 9},
		{"a..b", false, 2, 1},
		{"a...", false, 2, 1},
		{"a.", false, 2, 1},
		{".", false, 0, 0},
		{"..", false, 0, 0},
		{".a", false, 0, 0},
		{"%", false, 1, 0},
		{"%4", false, 2, 0},
		{"%4g", false, 2, 0},
		{"%g4", false, 1, 0},
		{"%%41", false, 1, 0},
		{"%4%41", false, 2, 0},
		{"%.1", false, 1, 0},
		{"%41%", false, 4, 3},
		{"%41.%4", false, 6, 3},
		{"%41.%4.", false, 6, 3},
		{"a.b.%", false, 5, 3},
		{"a.b.-", false, 4, 3},
		{"a-b", false, 1, 1},
		{"a b", false, 1, 1},
		{"a*", false, 1, 1},
		{"a:3", false, 1, 1},
		{"a,b", false, 1, 1},
		{"~a", false, 0, 0},
		{"\u00e9", false, 0, 0},
		{"a\u00e9", false, 1, 1},
		{"a\xC3", false, 1, 1},
		{"%4\x00", false, 2, 0},
		{"a.%C3%A9.b", true, 10, 10},
	} {
		if may, bad, end := vname.May(x.s), vname.Bad(x.s), vname.End(x.s); may != x.may || bad != x.bad || end != x.end {
			t.Errorf("%q: May %v, Bad %d, End %d", x.s, may, bad, end)
		}
	}
}

// P5.1: May, Bad and End of many texts, by the chapter's words.
func TestMany(t *testing.T) {
	manyTexts(func(s string) {
		if may := vname.May(s); may != aName.MatchString(s) {
			t.Fatalf("May(%q) = %v", s, may)
		}
		if bad, want := vname.Bad(s), longest(s, beginsName); bad != want {
			t.Fatalf("Bad(%q) = %d, not %d", s, bad, want)
		}
		if end, want := vname.End(s), longest(s, aName.MatchString); end != want {
			t.Fatalf("End(%q) = %d, not %d", s, end, want)
		}
	})
}

// P5.2: Split by hand: parts in turn, the same one twice, one alone, and nothing of what is no name.
func TestSplit(t *testing.T) {
	for s, want := range map[string][]string{
		"a": {"a"}, "ab": {"ab"}, "a.b": {"a", "b"}, "a.a": {"a", "a"}, "a.%41.c_1": {"a", "%41", "c_1"}, "%2E": {"%2E"}, "%2e.x": {"%2e", "x"},
		"": nil, ".": nil, "a.": nil, ".a": nil, "a..b": nil, "%4": nil, "a.%4": nil, "a-b": nil, "a.b\xFF": nil,
	} {
		if got := vname.Split(s); !slices.Equal(got, want) {
			t.Errorf("Split(%q) = %q", s, got)
		}
	}
}

// P5.2, P5.3: a name's parts have no points and, with points between, are it; what is no name has none.
func TestPartsAreTheName(t *testing.T) {
	manyTexts(func(s string) {
		parts := vname.Split(s)
		if !aName.MatchString(s) {
			if len(parts) != 0 {
				t.Fatalf("Split(%q) = %q", s, parts)
			}
			return
		}
		if strings.Join(parts, ".") != s {
			t.Fatalf("Split(%q) = %q", s, parts)
		}
		for _, p := range parts {
			if strings.Contains(p, ".") || !vname.May(p) {
				t.Fatalf("Split(%q) has the part %q", s, p)
			}
		}
	})
}

// P5.2: what is told is the caller's own: one answer changed leaves the next as it was.
func TestSplitIsNew(t *testing.T) {
	const name = "a.b"
	vname.Split(name)[0] = "x"
	if got := vname.Split(name); !slices.Equal(got, []string{"a", "b"}) {
		t.Errorf("Split(%q) = %q", name, got)
	}
}

// P5.3: names, with a point between and one behind the other, are names, whose parts are those of both.
func TestNamesOfNames(t *testing.T) {
	var names []string
	allTexts("%4a_.", 4, func(s string) {
		if vname.May(s) {
			names = append(names, s)
		}
	})
	if len(names) < 50 {
		t.Fatalf("so few names: %q", names)
	}
	for _, a := range names {
		for _, b := range names {
			if !vname.May(a+b) || !vname.May(a+"."+b) || vname.May(a+".."+b) {
				t.Fatalf("of %q and %q no names are made", a, b)
			}
			if got := vname.Split(a + "." + b); !slices.Equal(got, append(vname.Split(a), vname.Split(b)...)) {
				t.Fatalf("of %q and %q the parts are %q", a, b, got)
			}
		}
	}
}

// P5.1, P5.2: long texts end, and soon.
func TestLong(t *testing.T) {
	const times = 200000
	for _, s := range []string{"a", "%41", "a.b%C3"} {
		long := strings.Repeat(s, times)
		if n := len(long); !vname.May(long) || vname.Bad(long+"..") != n+1 || vname.End(long+"..") != n || vname.End(long+".%4") != n {
			t.Errorf("%q, many times, is no name", s)
		}
	}
	if got := vname.Split(strings.Repeat("a.", times) + "b"); len(got) != times+1 || got[times] != "b" {
		t.Errorf("%d parts", len(got))
	}
	for _, s := range []string{"%", ".", "%4", "\xFF"} {
		if vname.May(strings.Repeat(s, times)) || vname.End(strings.Repeat(s, times)) != 0 {
			t.Errorf("%q, many times, is a name", s)
		}
	}
}
