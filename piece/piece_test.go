package piece_test

import (
	"fmt"
	"math"
	"reflect"
	"slices"
	"strconv"
	"strings"
	"testing"
	"unicode/utf8"
	"unsafe"

	"phalarope/api"
	"phalarope/oper"
	"phalarope/pct"
	"phalarope/piece"
)

// The bytes that may stand in a URI, but for the % of triplets.
const (
	unreserved = "ABCDEFGHIJKLMNOPQRSTUVWXYZabcdefghijklmnopqrstuvwxyz0123456789-._~"
	reserved   = ":/?#[]@!$&'()*+,;="
	hex        = "0123456789ABCDEFabcdef"
)

// text, list and pairs are values, by short words: pairs of keys and values in turn.
func text(s string) api.Value { return api.Value{Kind: api.Text, S: s} }

func list(l ...string) api.Value { return api.Value{Kind: api.List, L: l} }

func pairs(l ...string) api.Value {
	v := api.Value{Kind: api.Pairs}
	for i := 0; i < len(l); i += 2 {
		v.P = append(v.P, api.Pair{Key: l[i], Val: l[i+1]})
	}
	return v
}

// plain, star and prefix are variables, by short words.
func plain(name string) api.Spec { return api.Spec{Name: name} }

func star(name string) api.Spec { return api.Spec{Name: name, Star: true} }

func prefix(name string, most int) api.Spec { return api.Spec{Name: name, Max: most} }

// rule is the tests' own picture of an operator.
type rule struct {
	op          byte
	sep         string
	named, keep bool
	empty       string
}

// rules are chapter 10's table, but for what stands first, which no piece has.
func rules() []rule {
	return []rule{
		{0, ",", false, false, ""},
		{'+', ",", false, true, ""},
		{'#', ",", false, true, ""},
		{'.', ".", false, false, ""},
		{'/', "/", false, false, ""},
		{';', ";", true, false, ""},
		{'?', "&", true, false, "="},
		{'&', "&", true, false, "="},
	}
}

// ruleOf is the rule of an operator; false: it is none.
func ruleOf(op byte) (rule, bool) {
	i := slices.IndexFunc(rules(), func(r rule) bool { return r.op == op })
	if i < 0 {
		return rule{}, false
	}
	return rules()[i], true
}

// isTriplet tells whether a text begins with a triplet.
func isTriplet(s string) bool {
	return len(s) > 2 && s[0] == '%' && strings.IndexByte(hex, s[1]) >= 0 && strings.IndexByte(hex, s[2]) >= 0
}

// encoded is the tests' own picture of a text that is encoded.
func encoded(s string, keep bool) string {
	out := ""
	for i := 0; i < len(s); i++ {
		switch {
		case strings.IndexByte(unreserved, s[i]) >= 0 || keep && strings.IndexByte(reserved, s[i]) >= 0:
			out += s[i : i+1]
		case keep && isTriplet(s[i:]):
			out += s[i : i+3]
			i += 2
		default:
			out += fmt.Sprintf("%%%02X", s[i])
		}
	}
	return out
}

// named is the tests' own picture of a name with what is behind it.
func named(r rule, name, s string) string {
	if len(s) > 0 {
		return name + "=" + s
	}
	return name + r.empty
}

// told is the tests' own picture of the text of a variable that may be, whose value is defined and valid.
func told(r rule, x api.Spec, v api.Value) string {
	var l []string
	for _, s := range v.L {
		if v.Kind == api.List {
			l = append(l, s)
		}
	}
	for _, p := range v.P {
		if v.Kind == api.Pairs {
			l = append(l, p.Key, p.Val)
		}
	}
	var parts []string
	switch {
	case v.Kind == api.Text:
		s := v.S
		if c := []rune(s); x.Max > 0 && x.Max < len(c) {
			s = string(c[:x.Max])
		}
		s = encoded(s, r.keep)
		if r.named {
			return named(r, x.Name, s)
		}
		return s
	case !x.Star:
		for _, s := range l {
			parts = append(parts, encoded(s, r.keep))
		}
		if r.named {
			return x.Name + "=" + strings.Join(parts, ",")
		}
		return strings.Join(parts, ",")
	case v.Kind == api.List && r.named:
		for _, s := range l {
			parts = append(parts, named(r, x.Name, encoded(s, r.keep)))
		}
	case v.Kind == api.List:
		for _, s := range l {
			parts = append(parts, encoded(s, r.keep))
		}
	default:
		for i := 0; i < len(l); i += 2 {
			if r.named {
				parts = append(parts, named(r, encoded(l[i], true), encoded(l[i+1], r.keep)))
			} else {
				parts = append(parts, encoded(l[i], r.keep)+"="+encoded(l[i+1], r.keep))
			}
		}
	}
	return strings.Join(parts, r.sep)
}

// operators are the eight.
const operators = "\x00+#./;?&"

// check holds One of a variable that may be, with a value that is defined and valid, against the picture.
func check(t *testing.T, r rule, x api.Spec, v api.Value) {
	t.Helper()
	want := told(r, x, v)
	if s, ok, e := piece.One(r.op, x, v); s != want || !ok || e != api.OK {
		t.Fatalf("One(%q, %+v, %+v) = %q, %v, %v, not %q", r.op, x, v, s, ok, e, want)
	}
}

// allTexts tells every list of n of the texts.
func allTexts(of []string, n int, tell func(l []string)) {
	if n == 0 {
		tell(nil)
		return
	}
	for _, s := range of {
		allTexts(of, n-1, func(l []string) { tell(append([]string{s}, l...)) })
	}
}

// P11.1: Named by hand, of every operator, also of those that name nothing.
func TestNamed(t *testing.T) {
	for _, x := range []struct {
		op               byte
		name, s, want    string
		withoutS, noName string
	}{
		{0, "a", "1", "a=1", "a", "=1"},
		{'+', "a", "1", "a=1", "a", "=1"},
		{'#', "a", "1", "a=1", "a", "=1"},
		{'.', "a", "1", "a=1", "a", "=1"},
		{'/', "a", "1", "a=1", "a", "=1"},
		{';', "a", "1", "a=1", "a", "=1"},
		{'?', "a", "1", "a=1", "a=", "=1"},
		{'&', "a", "1", "a=1", "a=", "=1"},
		{';', "a.%4a", "x=%20\xFF", "a.%4a=x=%20\xFF", "a.%4a", "=x=%20\xFF"},
		{'?', "\u00e9 ", "=", "\u00e9 ==", "\u00e9 =", "=="},
		{'&', "\xFF", "/", "\xFF=/", "\xFF=", "=/"},
		{'!', "a", "1", "", "", ""},
		{'*', "a", "1", "", "", ""},
	} {
		if s := piece.Named(x.op, x.name, x.s); s != x.want {
			t.Errorf("Named(%q, %q, %q) = %q", x.op, x.name, x.s, s)
		}
		if s := piece.Named(x.op, x.name, ""); s != x.withoutS {
			t.Errorf("Named(%q, %q, \"\") = %q", x.op, x.name, s)
		}
		if s := piece.Named(x.op, "", x.s); s != x.noName {
			t.Errorf("Named(%q, \"\", %q) = %q", x.op, x.s, s)
		}
	}
}

// P11.1, P1: Named of all bytes as operators, and of texts of all sorts: names and values are told as they are.
func TestNamedAll(t *testing.T) {
	texts := []string{"", "a", "=", "a=", "\u00e9", "\xFF", "%4", "%41", "/", " ", "\x00", "a.b"}
	for c := range 256 {
		r, ok := ruleOf(byte(c))
		for _, name := range texts {
			for _, s := range texts {
				want := ""
				if ok {
					want = named(r, name, s)
				}
				if got := piece.Named(byte(c), name, s); got != want {
					t.Errorf("Named(%q, %q, %q) = %q", byte(c), name, s, got)
				}
			}
		}
	}
}

// P11.2: One by hand, after RFC 6570's own examples, without what stands first.
func TestExamples(t *testing.T) {
	colours := list("red", "green", "blue")
	keys := pairs("semi", ";", "dot", ".", "comma", ",")
	for _, x := range []struct {
		op   byte
		x    api.Spec
		v    api.Value
		want string
	}{
		{0, plain("var"), text("value"), "value"},
		{0, plain("hello"), text("Hello World!"), "Hello%20World%21"},
		{0, plain("half"), text("50%"), "50%25"},
		{0, plain("base"), text("http://example.com/home/"), "http%3A%2F%2Fexample.com%2Fhome%2F"},
		{0, plain("empty"), text(""), ""},
		{0, prefix("var", 3), text("value"), "val"},
		{0, prefix("var", 30), text("value"), "value"},
		{0, plain("list"), colours, "red,green,blue"},
		{0, star("list"), colours, "red,green,blue"},
		{0, plain("keys"), keys, "semi,%3B,dot,.,comma,%2C"},
		{0, star("keys"), keys, "semi=%3B,dot=.,comma=%2C"},
		{'+', plain("hello"), text("Hello World!"), "Hello%20World!"},
		{'+', plain("half"), text("50%"), "50%25"},
		{'+', plain("base"), text("http://example.com/home/"), "http://example.com/home/"},
		{'+', prefix("path", 6), text("/foo/bar"), "/foo/b"},
		{'+', plain("list"), colours, "red,green,blue"},
		{'+', star("list"), colours, "red,green,blue"},
		{'+', plain("keys"), keys, "semi,;,dot,.,comma,,"},
		{'+', star("keys"), keys, "semi=;,dot=.,comma=,"},
		{'#', plain("hello"), text("Hello World!"), "Hello%20World!"},
		{'#', prefix("path", 6), text("/foo/bar"), "/foo/b"},
		{'#', star("keys"), keys, "semi=;,dot=.,comma=,"},
		{'.', plain("who"), text("fred"), "fred"},
		{'.', plain("half"), text("50%"), "50%25"},
		{'.', plain("list"), colours, "red,green,blue"},
		{'.', star("list"), colours, "red.green.blue"},
		{'.', plain("keys"), keys, "semi,%3B,dot,.,comma,%2C"},
		{'.', star("keys"), keys, "semi=%3B.dot=..comma=%2C"},
		{'/', plain("dub"), text("me/too"), "me%2Ftoo"},
		{'/', prefix("var", 1), text("value"), "v"},
		{'/', plain("list"), colours, "red,green,blue"},
		{'/', star("list"), colours, "red/green/blue"},
		{'/', star("keys"), keys, "semi=%3B/dot=./comma=%2C"},
		{';', plain("who"), text("fred"), "who=fred"},
		{';', plain("empty"), text(""), "empty"},
		{';', prefix("hello", 5), text("Hello World!"), "hello=Hello"},
		{';', plain("list"), colours, "list=red,green,blue"},
		{';', star("list"), colours, "list=red;list=green;list=blue"},
		{';', plain("keys"), keys, "keys=semi,%3B,dot,.,comma,%2C"},
		{';', star("keys"), keys, "semi=%3B;dot=.;comma=%2C"},
		{'?', plain("x"), text("1024"), "x=1024"},
		{'?', plain("empty"), text(""), "empty="},
		{'?', prefix("var", 3), text("value"), "var=val"},
		{'?', plain("list"), colours, "list=red,green,blue"},
		{'?', star("list"), colours, "list=red&list=green&list=blue"},
		{'?', plain("keys"), keys, "keys=semi,%3B,dot,.,comma,%2C"},
		{'?', star("keys"), keys, "semi=%3B&dot=.&comma=%2C"},
		{'&', plain("who"), text("fred"), "who=fred"},
		{'&', plain("empty"), text(""), "empty="},
		{'&', plain("list"), colours, "list=red,green,blue"},
		{'&', star("keys"), keys, "semi=%3B&dot=.&comma=%2C"},
	} {
		if s, ok, e := piece.One(x.op, x.x, x.v); s != x.want || !ok || e != api.OK {
			t.Errorf("One(%q, %+v, %+v) = %q, %v, %v", x.op, x.x, x.v, s, ok, e)
		}
	}
}

// P11.2: One by hand, at the edges: empty texts, keys, prefixes, triplets, and what a value has beside what its kind says.
func TestEdges(t *testing.T) {
	for _, x := range []struct {
		op   byte
		x    api.Spec
		v    api.Value
		want string
	}{
		// A star changes nothing in a text.
		{0, star("a"), text("x/"), "x%2F"},
		{';', star("a"), text("x/"), "a=x%2F"},
		{'?', star("a"), text(""), "a="},
		{';', star("a"), text(""), "a"},
		// A list without a star has its = even if nothing is behind it.
		{';', plain("a"), list(""), "a="},
		{'?', plain("a"), list(""), "a="},
		{';', plain("a"), list("", ""), "a=,"},
		{';', plain("a"), pairs("", ""), "a=,"},
		{0, plain("a"), list(""), ""},
		{0, plain("a"), list("", ""), ","},
		{'/', plain("a"), list("", ""), ","},
		{'/', plain("a"), list("x", "y"), "x,y"},
		{'.', plain("a"), pairs("x", "y"), "x,y"},
		{'&', plain("a"), list("x", "y"), "a=x,y"},
		// With a star each text has its own name.
		{';', star("a"), list(""), "a"},
		{';', star("a"), list("", "1", ""), "a;a=1;a"},
		{'?', star("a"), list("", "1", ""), "a=&a=1&a="},
		{'/', star("a"), list("", "1", ""), "/1/"},
		{'+', star("a"), list("", ",", ""), ",,,"},
		// Of pairs the key is the name, and the variable's own name is nowhere.
		{';', star("a"), pairs("", ""), ""},
		{'?', star("a"), pairs("", ""), "="},
		{'?', star("a"), pairs("", "1"), "=1"},
		{0, star("a"), pairs("", ""), "="},
		{'#', star("a"), pairs("", "", "k", ""), "=,k="},
		{';', star("a"), pairs("k", "", "l", "1", "m", ""), "k;l=1;m"},
		{'&', star("a"), pairs("k", "", "l", "1", "m", ""), "k=&l=1&m="},
		{'.', star("a"), pairs("k", "", "l", "1"), "k=.l=1"},
		// Where it stands for a name, a key keeps what is reserved, and triplets; the value doesn't.
		{';', star("a"), pairs("/%41 %4", "/%41 %4"), "/%41%20%254=%2F%2541%20%254"},
		{'?', star("a"), pairs("\u00e9=", "="), "%C3%A9==%3D"},
		{0, star("a"), pairs("/%41", "/%41"), "%2F%2541=%2F%2541"},
		{'/', star("a"), pairs("/%41", "/%41"), "%2F%2541=%2F%2541"},
		{'+', star("a"), pairs("/%41", "/%41"), "/%41=/%41"},
		{';', plain("a"), pairs("/%41", "/%41"), "a=%2F%2541,%2F%2541"},
		// A prefix counts characters, not bytes, nor triplets.
		{0, prefix("a", 1), text("\u20ac\u00e9"), "%E2%82%AC"},
		{0, prefix("a", 2), text("\u20ac\u00e9x"), "%E2%82%AC%C3%A9"},
		{0, prefix("a", 1), text("\U0001F600"), "%F0%9F%98%80"},
		{0, prefix("a", 1), text("e\u0301"), "e"},
		{0, prefix("a", 1), text("%41"), "%25"},
		{'+', prefix("a", 1), text("%41"), "%25"},
		{'+', prefix("a", 2), text("%41"), "%254"},
		{'+', prefix("a", 3), text("%41"), "%41"},
		{'?', prefix("a", 1), text(""), "a="},
		{';', prefix("a", api.MaxPrefix), text("xy"), "a=xy"},
		// What is reserved stays just with the operator's Keep, and so do triplets, as they are.
		{0, plain("a"), text(reserved), "%3A%2F%3F%23%5B%5D%40%21%24%26%27%28%29%2A%2B%2C%3B%3D"},
		{'#', plain("a"), text(reserved), reserved},
		{'?', plain("a"), text(unreserved), "a=" + unreserved},
		{'+', plain("a"), text("%c3%A9%zz"), "%c3%A9%25zz"},
		// A name is told as it is.
		{'?', plain("a.%4a_"), text("%4a"), "a.%4a_=%254a"},
		// Of a value just that is told which its kind says.
		{0, plain("a"), api.Value{Kind: api.Text, S: "x", L: []string{"\xFF"}, P: []api.Pair{{Key: "\xFF"}}}, "x"},
		{0, plain("a"), api.Value{Kind: api.List, S: "\xFF", L: []string{"x"}, P: []api.Pair{{Key: "\xFF"}}}, "x"},
		{0, plain("a"), api.Value{Kind: api.Pairs, S: "\xFF", L: []string{"\xFF"}, P: []api.Pair{{Key: "x"}}}, "x,"},
		{0, star("a"), api.Value{Kind: api.Pairs, S: "\xFF", L: []string{"\xFF"}, P: []api.Pair{{Key: "x"}}}, "x="},
		// The character that stands in for broken bytes is one as any other.
		{0, prefix("a", 1), text("\uFFFDx"), "%EF%BF%BD"},
	} {
		if s, ok, e := piece.One(x.op, x.x, x.v); s != x.want || !ok || e != api.OK {
			t.Errorf("One(%q, %+v, %+v) = %q, %v, %v", x.op, x.x, x.v, s, ok, e)
		}
	}
}

// P11.2, R1: the errors by hand, of several the one that is named first.
func TestErrors(t *testing.T) {
	broken, bad := list("x", "\xFF"), plain("a..b")
	for _, x := range []struct {
		op byte
		x  api.Spec
		v  api.Value
		e  api.Errno
	}{
		{'!', plain("a"), text("x"), api.ErrArg},
		{'!', plain("a"), api.Value{}, api.ErrArg},
		{'!', prefix("a", 1), broken, api.ErrArg},
		{'!', bad, text("x"), api.ErrArg},
		{'\xFF', plain("a"), text("\xFF"), api.ErrArg},
		{0, bad, text("x"), api.ErrArg},
		{0, bad, api.Value{}, api.ErrArg},
		{0, bad, broken, api.ErrArg},
		{0, plain(""), text("x"), api.ErrArg},
		{'?', plain("\u00e9"), text("x"), api.ErrArg},
		{0, api.Spec{Name: "a", Max: 1, Star: true}, text("x"), api.ErrArg},
		{0, api.Spec{Name: "a", Max: 1, Star: true}, list("x"), api.ErrArg},
		{0, prefix("a", -1), text("x"), api.ErrArg},
		{0, prefix("a", math.MinInt), list("x"), api.ErrArg},
		{0, prefix("a", api.MaxPrefix+1), text("x"), api.ErrArg},
		{0, prefix("a", math.MaxInt), list(), api.ErrArg},
		{0, plain("a"), api.Value{}, api.OK},
		{0, plain("a"), list(), api.OK},
		{'?', plain("a"), pairs(), api.OK},
		{';', star("a"), list(), api.OK},
		{'+', prefix("a", 1), list(), api.OK},
		{'+', prefix("a", 1), pairs(), api.OK},
		{0, prefix("a", 1), api.Value{Kind: 4, S: "\xFF"}, api.OK},
		{0, plain("a"), api.Value{Kind: -1, L: []string{"\xFF"}}, api.OK},
		{0, plain("a"), api.Value{Kind: api.List, S: "x"}, api.OK},
		{0, plain("a"), api.Value{Kind: api.Pairs, S: "x", L: []string{"x"}}, api.OK},
		{0, prefix("a", 1), list("x"), api.ErrPrefix},
		{'&', prefix("a", 9), list("x"), api.ErrPrefix},
		{'&', prefix("a", api.MaxPrefix), pairs("x", "y"), api.ErrPrefix},
		{0, prefix("a", 1), broken, api.ErrPrefix},
		{0, prefix("a", 1), pairs("\xFF", ""), api.ErrPrefix},
		{0, plain("a"), text("\xFF"), api.ErrUTF8},
		{'+', plain("a"), text("x\xC3"), api.ErrUTF8},
		// Also if the prefix has none of the broken bytes.
		{0, prefix("a", 1), text("x\xFF"), api.ErrUTF8},
		{'+', star("a"), text("\xED\xA0\x80"), api.ErrUTF8},
		{0, plain("a"), broken, api.ErrUTF8},
		{';', star("a"), broken, api.ErrUTF8},
		{'?', plain("a"), pairs("x", "y", "\xFF", "z"), api.ErrUTF8},
		{'?', star("a"), pairs("x", "y", "\xFF", "z"), api.ErrUTF8},
		{'?', star("a"), pairs("x", "\xC0\x80"), api.ErrUTF8},
	} {
		if s, ok, e := piece.One(x.op, x.x, x.v); s != "" || ok || e != x.e {
			t.Errorf("One(%q, %+v, %+v) = %q, %v, %v", x.op, x.x, x.v, s, ok, e)
		}
	}
}

// sample is a value, and what the chapters say of it.
type sample struct {
	v              api.Value
	defined, valid bool
}

// samples are values of all sorts.
func samples() []sample {
	l := []sample{
		{api.Value{}, false, true}, {api.Value{S: "x"}, false, true}, {api.Value{Kind: 4, S: "x"}, false, true}, {api.Value{Kind: -1, L: []string{"x"}}, false, true},
		{list(), false, true}, {api.Value{Kind: api.List, L: []string{}, S: "x"}, false, true}, {pairs(), false, true}, {api.Value{Kind: api.Pairs, L: []string{"x"}}, false, true},
		{text("\xFF"), true, false}, {text("xy\xC3"), true, false}, {list("\xFF"), true, false}, {list("x", "", "\x80"), true, false},
		{pairs("\xFF", ""), true, false}, {pairs("", "\xFF"), true, false}, {pairs("x", "y", "", "\xFF"), true, false},
	}
	for _, s := range []string{"", "x", "xyz", "/", "a,b", "\u00e9/x", "%41", "%4", "\u20ac\U0001F600z", "\uFFFD", "\x00\x7F", " "} {
		l = append(l, sample{text(s), true, true}, sample{list(s), true, true}, sample{list(s, ""), true, true}, sample{list("", s, "1"), true, true},
			sample{pairs(s, "1"), true, true}, sample{pairs("k", s), true, true}, sample{pairs(s, s, "", s), true, true}, sample{api.Value{Kind: api.Text, S: s, L: []string{"\xFF"}}, true, true})
	}
	return l
}

// P11.2, P1: One of every byte as an operator, of variables that may be or not, of values of all sorts.
func TestAll(t *testing.T) {
	for c := range 256 {
		r, isOp := ruleOf(byte(c))
		for _, x := range []struct {
			x   api.Spec
			may bool
		}{
			{plain("a"), true}, {star("a"), true}, {prefix("a", 1), true}, {prefix("a", 2), true}, {prefix("a", 3), true}, {prefix("a", api.MaxPrefix), true},
			{plain("b.%c3_9"), true}, {star("b.%c3_9"), true},
			{api.Spec{}, false}, {plain("a..b"), false}, {star("a b"), false}, {plain("\xFF"), false}, {prefix("a", -1), false}, {prefix("a", api.MaxPrefix+1), false}, {api.Spec{Name: "a", Max: 2, Star: true}, false},
		} {
			for _, y := range samples() {
				want, wantOK, wantE := "", false, api.OK
				switch {
				case !isOp || !x.may:
					wantE = api.ErrArg
				case !y.defined:
				case x.x.Max > 0 && y.v.Kind != api.Text:
					wantE = api.ErrPrefix
				case !y.valid:
					wantE = api.ErrUTF8
				default:
					want, wantOK = told(r, x.x, y.v), true
				}
				if s, ok, e := piece.One(byte(c), x.x, y.v); s != want || ok != wantOK || e != wantE {
					t.Fatalf("One(%q, %+v, %+v) = %q, %v, %v, not %q, %v, %v", byte(c), x.x, y.v, s, ok, e, want, wantOK, wantE)
				}
			}
		}
	}
}

// P11.2: One of all lists and pairs of a few short texts, with every operator, with a star and without.
func TestAllShort(t *testing.T) {
	of := []string{"", "x", ",", "%41", "\u00e9"}
	for _, r := range rules() {
		for n := 1; n <= 4; n++ {
			allTexts(of, n, func(l []string) {
				check(t, r, plain("a"), list(l...))
				check(t, r, star("a"), list(l...))
				if n%2 == 0 {
					check(t, r, plain("a"), pairs(l...))
					check(t, r, star("a"), pairs(l...))
				}
			})
		}
	}
}

// P11.2: One of texts with every byte of ASCII in them, as a text, in a list, as a key, and as its value.
func TestEveryByte(t *testing.T) {
	for _, r := range rules() {
		for c := range 128 {
			s := "%" + string(rune(c)) + "f" + string(rune(c))
			for _, v := range []api.Value{text(s), list(s, s), pairs(s, s)} {
				check(t, r, plain("a"), v)
				check(t, r, star("a"), v)
			}
		}
	}
}

// P11.2: every prefix of texts whose characters have one to four bytes.
func TestPrefixes(t *testing.T) {
	for _, s := range []string{"", "abc%41", "\u00e9a\u20ac\U0001F600z", "\U0010FFFF\u0800\u07FF\u0080", strings.Repeat("\u20ac%41", 20)} {
		for _, r := range rules() {
			for n := range len(s) + 3 {
				check(t, r, prefix("a", n), text(s))
			}
		}
	}
}

// inURI tells whether a text has nothing but bytes that may stand in a URI, and each % begins a triplet.
func inURI(s string) bool {
	for i := 0; i < len(s); i++ {
		if s[i] == '%' && !isTriplet(s[i:]) || s[i] != '%' && strings.IndexByte(unreserved+reserved, s[i]) < 0 {
			return false
		}
	}
	return true
}

// P11.3: what is told may stand in a URI, whatever the texts are.
func TestInURI(t *testing.T) {
	var all strings.Builder
	for c := range 0x3000 {
		if utf8.ValidRune(rune(c)) {
			all.WriteRune(rune(c))
		}
	}
	vs := []api.Value{text(all.String()), list(all.String(), "\U0010FFFF"), pairs(all.String(), all.String())}
	for _, y := range samples() {
		vs = append(vs, y.v)
	}
	for _, op := range oper.All() {
		for _, v := range vs {
			for _, x := range []api.Spec{plain("a"), star("b.%4a_"), prefix("a", 1), prefix("a", 2), prefix("a", 300)} {
				if s, _, _ := piece.One(op, x, v); !inURI(s) {
					t.Errorf("One(%q, %+v, %+v) = %q", op, x, v, s)
				}
			}
		}
	}
}

// P11.3: without an operator's Keep pct.Decode tells the text, or its prefix, back.
func TestBack(t *testing.T) {
	of := []string{"", "a", "%", "41", "/", "=", ",", "\u00e9", "\U0001F600"}
	for _, op := range []byte(strings.NewReplacer("+", "", "#", "").Replace(operators)) {
		allTexts(of, 4, func(l []string) {
			whole := strings.Join(l, "")
			for _, x := range []api.Spec{plain("n"), star("n"), prefix("n", 1), prefix("n", 2)} {
				s, ok, e := piece.One(op, x, text(whole))
				if strings.IndexByte(";?&", op) >= 0 && s != "n" {
					s = strings.TrimPrefix(s, "n=")
				} else if op == ';' {
					s = ""
				}
				want := whole
				if c := []rune(whole); x.Max > 0 && len(c) > x.Max {
					want = string(c[:x.Max])
				}
				if back, may := pct.Decode(s); !ok || e != api.OK || !may || back != want {
					t.Fatalf("One(%q, %+v, %q) = %q, %v, %v, which is %q, %v", op, x, whole, s, ok, e, back, may)
				}
			}
		})
	}
}

// P11.3: with an operator's Keep a text isn't always told back, as a triplet in it stays.
func TestNotBack(t *testing.T) {
	for _, op := range []byte("+#") {
		s, _, _ := piece.One(op, plain("a"), text("%41"))
		if back, ok := pct.Decode(s); s != "%41" || back != "A" || !ok {
			t.Errorf("One(%q) of %%41 = %q, which is %q, %v", op, s, back, ok)
		}
	}
}

// R3: what is handed in stays as it is, and shares no memory with what is told.
func TestOwn(t *testing.T) {
	for _, op := range []byte(operators) {
		for _, v := range []api.Value{{Kind: api.Text, S: "x", L: []string{"y", ""}}, list("x"), list("x", "", "/"), pairs("x", ""), pairs("x", "", "", "/")} {
			was := api.Value{Kind: v.Kind, S: v.S, L: slices.Clone(v.L), P: slices.Clone(v.P)}
			for _, x := range []api.Spec{plain("a"), star("a")} {
				first, _, _ := piece.One(op, x, v)
				second, _, _ := piece.One(op, x, v)
				if first != second || !reflect.DeepEqual(v, was) {
					t.Errorf("One(%q, %+v, %+v) = %q, then %q", op, x, was, first, second)
				}
			}
		}
		name, s := strings.Repeat("n", 100), strings.Repeat("s", 100)
		for _, told := range []string{piece.Named(op, name, ""), piece.Named(op, "", s), one(op, plain(name), text("")), one(op, plain("a"), text(s)), one(op, star("a"), list(s)), one(op, star("a"), pairs(name, ""))} {
			if shares(told, name) || shares(told, s) {
				t.Errorf("%q shares memory with what %q was asked of", told, op)
			}
		}
	}
}

// one is what One tells, alone.
func one(op byte, x api.Spec, v api.Value) string {
	s, _, _ := piece.One(op, x, v)
	return s
}

// shares tells whether the first byte of a text stands where the other one stands.
func shares(s, other string) bool {
	at, from := uintptr(unsafe.Pointer(unsafe.StringData(s))), uintptr(unsafe.Pointer(unsafe.StringData(other)))
	return s != "" && from <= at && at < from+uintptr(len(other))
}

// P1: long texts, and many of them, end, soon.
func TestMany(t *testing.T) {
	const times = 200000
	var texts, l, named []string
	for i := range times {
		texts = append(texts, strconv.Itoa(i)+"/")
		l = append(l, strconv.Itoa(i)+"%2F")
		named = append(named, "a="+l[i])
	}
	if s := one('?', plain("a"), list(texts...)); s != "a="+strings.Join(l, ",") {
		t.Error("many texts under one name")
	}
	if s := one('?', star("a"), list(texts...)); s != strings.Join(named, "&") {
		t.Error("many texts, each by itself")
	}
	if s := one('?', star("a"), pairs(texts...)); len(s) != len(strings.Join(l, ","))-times {
		t.Error("many pairs")
	}
	long := strings.Repeat("\u20ac/", times)
	if s := one(0, plain("a"), text(long)); s != strings.Repeat("%E2%82%AC%2F", times) {
		t.Error("a long text")
	}
	if s := one('+', prefix("a", api.MaxPrefix), text(long)); s != strings.Repeat("%E2%82%AC/", api.MaxPrefix/2)+"%E2%82%AC" {
		t.Error("a long text's prefix")
	}
	name := strings.Repeat("a.", times) + "a"
	if s := one(';', plain(name), text("")); s != name {
		t.Error("a long name")
	}
}
