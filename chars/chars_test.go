package chars_test

import (
	"math/rand"
	"slices"
	"testing"

	"phalarope/chars"
)

// bools is the tests' own picture of a set: which of the 256 bytes it has.
type bools [256]bool

// picture reads a set's bits as P2.1 lays them out, by none of the package's functions.
func picture(s chars.Set) bools {
	var p bools
	for c := range p {
		p[c] = s[c/64]&(uint64(1)<<uint(c%64)) != 0
	}
	return p
}

// laidOut is a picture as a set, by P2.1's layout of the bits.
func laidOut(p bools) chars.Set {
	var s chars.Set
	for c, in := range p {
		if in {
			s[c/64] += uint64(1) << uint(c%64)
		}
	}
	return s
}

// where is the picture of the bytes for which a rule holds.
func where(rule func(c int) bool) bools {
	var p bools
	for c := range p {
		p[c] = rule(c)
	}
	return p
}

// samples are sets of all sorts: none, all, each byte alone and left out, edges of the four numbers, and many of chance.
func samples() []chars.Set {
	all := ^uint64(0)
	l := []chars.Set{
		{}, {all, all, all, all}, {all}, {0, all}, {0, 0, all}, {0, 0, 0, all},
		{1, 1, 1, 1}, {1 << 63, 1 << 63, 1 << 63, 1 << 63}, {1<<63 | 1, 0, 0, 1<<63 | 1},
	}
	for c := range 256 {
		l = append(l, laidOut(where(func(x int) bool { return x == c })), laidOut(where(func(x int) bool { return x != c })))
	}
	r := rand.New(rand.NewSource(2))
	for range 200 {
		l = append(l, chars.Set{r.Uint64(), r.Uint64(), r.Uint64(), r.Uint64()}, chars.Set{r.Uint64() & r.Uint64() & r.Uint64(), 0, r.Uint64() & r.Uint64(), 0})
	}
	return l
}

// P2.1: a set's bits, as Has, List and Len tell them.
func TestBits(t *testing.T) {
	for _, s := range samples() {
		p, was := picture(s), s
		var list []byte
		for c, in := range p {
			if in {
				list = append(list, byte(c))
			}
			if s.Has(byte(c)) != in {
				t.Fatalf("%x: Has(%d) is %v", s, c, !in)
			}
		}
		if got := s.List(); got != string(list) {
			t.Fatalf("%x: List is %q, not %q", s, got, list)
		}
		if got := s.Len(); got != len(list) {
			t.Fatalf("%x: Len is %d, not %d", s, got, len(list))
		}
		if s != was {
			t.Fatalf("%x was changed to %x", was, s)
		}
	}
}

// P2.1: which bit of which number is which byte's, written out.
func TestLayout(t *testing.T) {
	for _, x := range []struct {
		c byte
		s chars.Set
	}{
		{0, chars.Set{1}}, {1, chars.Set{2}}, {63, chars.Set{0x8000000000000000}},
		{64, chars.Set{0, 1}}, {'A', chars.Set{0, 2}}, {127, chars.Set{0, 0x8000000000000000}},
		{128, chars.Set{0, 0, 1}}, {191, chars.Set{0, 0, 0x8000000000000000}},
		{192, chars.Set{0, 0, 0, 1}}, {255, chars.Set{0, 0, 0, 0x8000000000000000}},
	} {
		if got := chars.Of(string([]byte{x.c})); got != x.s {
			t.Errorf("Of(%d) is %x, not %x", x.c, got, x.s)
		}
		if !x.s.Has(x.c) || x.s.Len() != 1 || x.s.List() != string([]byte{x.c}) {
			t.Errorf("%x is not told as the byte %d alone", x.s, x.c)
		}
	}
}

// P2.1: a text's bytes, also if they come twice, in any order, or are no valid UTF-8.
func TestOf(t *testing.T) {
	if chars.Of("") != (chars.Set{}) {
		t.Error("an empty text has bytes")
	}
	for _, text := range []string{"a", "aa", "zyxxyz", "\x00\xff", "\xff\xfe\x80", "\u00e9", "\U0001F600", "%41 {}"} {
		want := laidOut(where(func(c int) bool { return slices.Contains([]byte(text), byte(c)) }))
		if got := chars.Of(text); got != want {
			t.Errorf("Of(%q) is %x, not %x", text, got, want)
		}
	}
	for _, s := range samples() {
		if chars.Of(s.List()) != s {
			t.Fatalf("%x is not what its list is of", s)
		}
	}
}

// P2.1: every range there is, those with a high end below the low one among them.
func TestRange(t *testing.T) {
	for low := range 256 {
		for high := range 256 {
			want := laidOut(where(func(c int) bool { return low <= c && c <= high }))
			if got := chars.Range(byte(low), byte(high)); got != want {
				t.Fatalf("Range(%d, %d) is %x, not %x", low, high, got, want)
			}
		}
	}
}

// P2.1: unions of no, one, two and more sets; the sets that are handed in stay as they are.
func TestUnion(t *testing.T) {
	if chars.Union() != (chars.Set{}) || chars.Union(nil...) != (chars.Set{}) || chars.Union([]chars.Set{}...) != (chars.Set{}) {
		t.Error("the union of no set has bytes")
	}
	l := samples()
	for i := range l {
		if chars.Union(l[i]) != l[i] {
			t.Fatalf("%x: the union of one set is not that set", l[i])
		}
		some := []chars.Set{l[i], l[(i+7)%len(l)], l[(i*i+1)%len(l)]}
		was := slices.Clone(some)
		a, b, c := picture(some[0]), picture(some[1]), picture(some[2])
		if got, want := chars.Union(some[:2]...), laidOut(where(func(x int) bool { return a[x] || b[x] })); got != want {
			t.Fatalf("Union(%x) is %x, not %x", some[:2], got, want)
		}
		if got, want := chars.Union(some...), laidOut(where(func(x int) bool { return a[x] || b[x] || c[x] })); got != want {
			t.Fatalf("Union(%x) is %x, not %x", some, got, want)
		}
		if !slices.Equal(some, was) {
			t.Fatalf("%x was changed to %x", was, some)
		}
	}
}

// P2.1: what is left of a set without another one, and what a set hasn't.
func TestMinusAndNot(t *testing.T) {
	l := samples()
	for i := range l {
		x, y := l[i], l[(i*i+3)%len(l)]
		a, b := picture(x), picture(y)
		if got, want := chars.Minus(x, y), laidOut(where(func(c int) bool { return a[c] && !b[c] })); got != want {
			t.Fatalf("Minus(%x, %x) is %x, not %x", x, y, got, want)
		}
		if got, want := chars.Not(x), laidOut(where(func(c int) bool { return !a[c] })); got != want {
			t.Fatalf("Not(%x) is %x, not %x", x, got, want)
		}
		if picture(x) != a || picture(y) != b {
			t.Fatal("a set was changed")
		}
	}
}

// P2.2: every class, byte by byte, against lists that are written out in full.
func TestClasses(t *testing.T) {
	const digits = "0123456789"
	const alphas = "ABCDEFGHIJKLMNOPQRSTUVWXYZabcdefghijklmnopqrstuvwxyz"
	for _, x := range []struct {
		name string
		s    chars.Set
		has  string
		n    int
	}{
		{"Digit", chars.Digit(), digits, 10},
		{"Alpha", chars.Alpha(), alphas, 52},
		{"Hex", chars.Hex(), digits + "ABCDEFabcdef", 22},
		{"Word", chars.Word(), alphas + digits + "_", 63},
		{"Unreserved", chars.Unreserved(), alphas + digits + "-._~", 66},
		{"Reserved", chars.Reserved(), ":/?#[]@!$&'()*+,;=", 18},
		{"Literal", chars.Literal(), alphas + digits + "!#$&()*+,-./:;=?@[]_~", 83},
	} {
		want := where(func(c int) bool { return slices.Contains([]byte(x.has), byte(c)) })
		got := picture(x.s)
		for c := range want {
			if got[c] != want[c] {
				t.Errorf("%s: of the byte %d (%q) it is told %v", x.name, c, rune(c), got[c])
			}
		}
		if x.s.Len() != x.n {
			t.Errorf("%s has %d bytes, not %d", x.name, x.s.Len(), x.n)
		}
	}
}

// P2.2: literals are the bytes from 33 to 126 but eleven.
func TestLiteralEdges(t *testing.T) {
	s := chars.Literal()
	for _, c := range []byte{0, 31, 32, '"', '\'', '%', '<', '>', '\\', '^', '`', '{', '|', '}', 127, 128, 255} {
		if s.Has(c) {
			t.Errorf("a literal may be the byte %d", c)
		}
	}
	for _, c := range []byte{33, '#', '&', '(', '=', '?', '[', ']', '_', 'a', 'z', 126} {
		if !s.Has(c) {
			t.Errorf("a literal may not be the byte %d", c)
		}
	}
}

// P2.3: no byte is both unreserved and reserved.
func TestApart(t *testing.T) {
	u, r := chars.Unreserved(), chars.Reserved()
	if chars.Minus(u, r) != u || chars.Minus(r, u) != r || chars.Union(u, r).Len() != u.Len()+r.Len() {
		t.Error("a byte is unreserved and reserved")
	}
}

// P2.3: the laws of sets, by the package's own functions.
func TestLaws(t *testing.T) {
	none, all := chars.Set{}, chars.Range(0, 255)
	if chars.Not(none) != all || chars.Not(all) != none || all.Len() != 256 {
		t.Error("none and all are not each other's rest")
	}
	common := func(a, b chars.Set) chars.Set { return chars.Minus(a, chars.Not(b)) }
	l := samples()
	for i := range l {
		a, b, c := l[i], l[(i*i+5)%len(l)], l[(i*3+1)%len(l)]
		for _, law := range []struct {
			name        string
			left, right chars.Set
		}{
			{"not not", chars.Not(chars.Not(a)), a},
			{"union with itself", chars.Union(a, a), a},
			{"union with none", chars.Union(a, none), a},
			{"union with the rest", chars.Union(a, chars.Not(a)), all},
			{"union either way round", chars.Union(a, b), chars.Union(b, a)},
			{"union of unions", chars.Union(chars.Union(a, b), c), chars.Union(a, chars.Union(b, c))},
			{"union of three", chars.Union(a, b, c), chars.Union(chars.Union(a, b), c)},
			{"minus itself", chars.Minus(a, a), none},
			{"minus none", chars.Minus(a, none), a},
			{"minus all", chars.Minus(a, all), none},
			{"all minus", chars.Minus(all, a), chars.Not(a)},
			{"minus and union", chars.Union(chars.Minus(a, b), b), chars.Union(a, b)},
			{"minus of a union", chars.Minus(a, chars.Union(b, c)), chars.Minus(chars.Minus(a, b), c)},
			{"common either way round", common(a, b), common(b, a)},
			{"common and minus", chars.Union(common(a, b), chars.Minus(a, b)), a},
			{"not of a union", chars.Not(chars.Union(a, b)), common(chars.Not(a), chars.Not(b))},
			{"common over unions", common(a, chars.Union(b, c)), chars.Union(common(a, b), common(a, c))},
		} {
			if law.left != law.right {
				t.Fatalf("%s: %x and %x, with %x, %x and %x", law.name, law.left, law.right, a, b, c)
			}
		}
		if chars.Not(a).Len() != 256-a.Len() || chars.Union(a, b).Len()+common(a, b).Len() != a.Len()+b.Len() {
			t.Fatalf("%x and %x: the numbers of bytes do not add up", a, b)
		}
	}
}
