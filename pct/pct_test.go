package pct_test

import (
	"fmt"
	"regexp"
	"strconv"
	"strings"
	"testing"

	"phalarope/chars"
	"phalarope/pct"
)

// The oracles below are the chapter's words by regular expressions, apart from the way that the package takes.
var (
	aTriplet     = regexp.MustCompile(`%[0-9A-Fa-f]{2}`)
	firstTriplet = regexp.MustCompile(`^%[0-9A-Fa-f]{2}`)
	decodable    = regexp.MustCompile(`^([^%]|%[0-9A-Fa-f]{2})*$`)
	uriText      = regexp.MustCompile(`^([A-Za-z0-9\-._~:/?#\[\]@!$&'()*+,;=]|%[0-9A-Fa-f]{2})*$`)
)

const (
	unreserved = "ABCDEFGHIJKLMNOPQRSTUVWXYZabcdefghijklmnopqrstuvwxyz0123456789-._~"
	reserved   = ":/?#[]@!$&'()*+,;="
)

func encodedBytes(s, stays string) string {
	out := ""
	for _, c := range []byte(s) {
		if strings.IndexByte(stays, c) >= 0 {
			out += string([]byte{c})
		} else {
			out += fmt.Sprintf("%%%02X", c)
		}
	}
	return out
}

func encoded(s string, keep bool) string {
	if !keep {
		return encodedBytes(s, unreserved)
	}
	out, from := "", 0
	for _, at := range aTriplet.FindAllStringIndex(s, -1) {
		out += encodedBytes(s[from:at[0]], unreserved+reserved) + s[at[0]:at[1]]
		from = at[1]
	}
	return out + encodedBytes(s[from:], unreserved+reserved)
}

func decoded(s string) (string, bool) {
	if !decodable.MatchString(latin(s)) {
		return "", false
	}
	return aTriplet.ReplaceAllStringFunc(s, func(t string) string {
		n, _ := strconv.ParseUint(t[1:], 16, 8)
		return string([]byte{byte(n)})
	}), true
}

// latin is a text with a character a byte, so that an expression asks it byte by byte.
func latin(s string) string {
	var b strings.Builder
	for _, c := range []byte(s) {
		b.WriteRune(rune(c))
	}
	return b.String()
}

// allTexts tells every text of at most n of the bytes.
func allTexts(bytes string, n int, tell func(s string)) {
	var grow func(s string, n int)
	grow = func(s string, n int) {
		tell(s)
		if n == 0 {
			return
		}
		for i := range len(bytes) {
			grow(s+bytes[i:i+1], n-1)
		}
	}
	grow("", n)
}

// manyTexts tells texts that hold triplets, what is nearly one, and all bytes.
func manyTexts(tell func(s string)) {
	allTexts("%4aFg/ \xC3", 5, tell)
	for a := range 256 {
		tell(string([]byte{byte(a)}))
		for b := range 256 {
			tell(string([]byte{'%', byte(a), byte(b)}))
			tell(string([]byte{byte(a), '4', byte(b), '1'}))
		}
	}
}

// P3.1: Digit, at every byte, and none other than those of chars.Hex.
func TestDigit(t *testing.T) {
	for c := range 256 {
		want, err := strconv.ParseUint(string([]byte{byte(c)}), 16, 8)
		n, ok := pct.Digit(byte(c))
		if ok != (err == nil) || ok && n != int(want) || !ok && n != 0 {
			t.Errorf("Digit(%#x) = %d, %v", c, n, ok)
		}
		if ok != chars.Hex().Has(byte(c)) {
			t.Errorf("Digit(%#x) and chars.Hex say two things", c)
		}
	}
}

// P3.1: One, at every byte: great letters, and always three bytes.
func TestOne(t *testing.T) {
	for c := range 256 {
		if s := pct.One(byte(c)); s != fmt.Sprintf("%%%02X", c) {
			t.Errorf("One(%d) = %q", c, s)
		}
	}
}

// P3.1: Triplet, of what begins with one, and of what is too short, or has one later on.
func TestTriplet(t *testing.T) {
	for s, want := range map[string]bool{
		"": false, "%": false, "%4": false, "%41": true, "%4g": false, "%g4": false, "%41%": true,
		"%aF": true, "%Fa": true, "x%41": false, "41": false, "%%41": false, "%4%41": false, "%-1": false, "%+1": false,
		"%00": true, "%ff": true, "%fG": false, "%0x": false, "% 1": false, "%4\xC3": false,
	} {
		if got := pct.Triplet(s); got != want {
			t.Errorf("Triplet(%q) = %v", s, got)
		}
	}
	manyTexts(func(s string) {
		if got, want := pct.Triplet(s), firstTriplet.MatchString(s); got != want {
			t.Fatalf("Triplet(%q) = %v", s, got)
		}
	})
}

// P3.2: Encode by hand: what stays, with keep and without.
func TestEncodeExamples(t *testing.T) {
	for _, x := range []struct{ s, plain, kept string }{
		{"", "", ""},
		{" ", "%20", "%20"},
		{"/%41", "%2F%2541", "/%41"},
		{"%", "%25", "%25"},
		{"%4", "%254", "%254"},
		{"%%41", "%25%2541", "%25%41"},
		{"%4%41", "%254%2541", "%254%41"},
		{"%aF%zz", "%25aF%25zz", "%aF%25zz"},
		{unreserved, unreserved, unreserved},
		{"a\u00e9\x00\xFF", "a%C3%A9%00%FF", "a%C3%A9%00%FF"},
		{reserved, "%3A%2F%3F%23%5B%5D%40%21%24%26%27%28%29%2A%2B%2C%3B%3D", reserved},
		{"\"<>\\^`{|}", "%22%3C%3E%5C%5E%60%7B%7C%7D", "%22%3C%3E%5C%5E%60%7B%7C%7D"},
	} {
		if got := pct.Encode(x.s, false); got != x.plain {
			t.Errorf("Encode(%q, false) = %q", x.s, got)
		}
		if got := pct.Encode(x.s, true); got != x.kept {
			t.Errorf("Encode(%q, true) = %q", x.s, got)
		}
	}
}

// P3.2: Encode of many texts, by the chapter's words.
func TestEncodeMany(t *testing.T) {
	manyTexts(func(s string) {
		for _, keep := range []bool{false, true} {
			if got, want := pct.Encode(s, keep), encoded(s, keep); got != want {
				t.Fatalf("Encode(%q, %v) = %q, not %q", s, keep, got, want)
			}
		}
	})
}

// P3.2: Decode by hand: in whichever letters, and empty with false at a % that begins no triplet, wherever it stands.
func TestDecodeExamples(t *testing.T) {
	for _, x := range []struct {
		s, want string
		ok      bool
	}{
		{"", "", true},
		{"a+ /\xC3", "a+ /\xC3", true},
		{"%41%2f%2F", "A//", true},
		{"%2541", "%41", true},
		{"%00%ff%C3%a9", "\x00\xFF\u00e9", true},
		{"%", "", false},
		{"%4", "", false},
		{"ab%", "", false},
		{"%41%4", "", false},
		{"%zz%41", "", false},
		{"%%41", "", false},
		{"%4%41", "", false},
		{"%g1", "", false},
		{"%1g", "", false},
	} {
		if got, ok := pct.Decode(x.s); got != x.want || ok != x.ok {
			t.Errorf("Decode(%q) = %q, %v", x.s, got, ok)
		}
	}
}

// P3.2: Decode of many texts, by the chapter's words.
func TestDecodeMany(t *testing.T) {
	manyTexts(func(s string) {
		want, wantOK := decoded(s)
		if got, ok := pct.Decode(s); got != want || ok != wantOK {
			t.Fatalf("Decode(%q) = %q, %v, not %q, %v", s, got, ok, want, wantOK)
		}
	})
}

// P3.2: Norm by hand: triplets alone have great letters, and what begins none stays.
func TestNormExamples(t *testing.T) {
	for s, want := range map[string]string{
		"": "", "ab": "ab", "%af": "%AF", "%aF%Af%AF": "%AF%AF%AF", "%": "%", "%a": "%a", "%ag": "%ag", "af%aff": "af%AFf",
		"%%af": "%%AF", "%a%af": "%a%AF", "%af%a": "%AF%a", "%41": "%41", "\u00e9%c3": "\u00e9%C3", "\xC3%c3": "\xC3%C3", "%25ab": "%25ab",
	} {
		if got := pct.Norm(s); got != want {
			t.Errorf("Norm(%q) = %q", s, got)
		}
	}
}

// P3.2: Norm of many texts, by the chapter's words; once it is done there is nothing left to do.
func TestNormMany(t *testing.T) {
	manyTexts(func(s string) {
		got := pct.Norm(s)
		if want := aTriplet.ReplaceAllStringFunc(s, strings.ToUpper); got != want {
			t.Fatalf("Norm(%q) = %q, not %q", s, got, want)
		}
		if pct.Norm(got) != got {
			t.Fatalf("Norm(%q) is not its own", got)
		}
	})
}

// P3.3: there and back; with keep if there is no %; and what is encoded may stand in a URI.
func TestThereAndBack(t *testing.T) {
	manyTexts(func(s string) {
		plain, kept := pct.Encode(s, false), pct.Encode(s, true)
		if back, ok := pct.Decode(plain); !ok || back != s {
			t.Fatalf("%q, encoded and decoded, is %q, %v", s, back, ok)
		}
		back, ok := pct.Decode(kept)
		if !strings.Contains(s, "%") && (!ok || back != s) {
			t.Fatalf("%q, encoded with keep and decoded, is %q, %v", s, back, ok)
		}
		if !ok || !uriText.MatchString(plain) || !uriText.MatchString(kept) {
			t.Fatalf("%q, encoded, has bytes that may not stand in a URI: %q, %q", s, plain, kept)
		}
	})
}

// P3.3: with a % in it what is encoded with keep may be decoded as something else.
func TestKeepIsNotAlwaysBack(t *testing.T) {
	if back, ok := pct.Decode(pct.Encode("%41", true)); !ok || back != "A" {
		t.Errorf("%q, %v", back, ok)
	}
}

// P3.2, P3.3: long texts end, and soon.
func TestLong(t *testing.T) {
	for _, s := range []string{"%", "%4", "%41", "%c3", "/", "\xFF", "ab%zz"} {
		long := strings.Repeat(s, 200000)
		if back, ok := pct.Decode(pct.Encode(long, false)); !ok || back != long {
			t.Errorf("%q, many times, is not decoded as it was", s)
		}
		pct.Norm(pct.Encode(long, true))
	}
}
