package tmpl_test

import (
	"reflect"
	"regexp"
	"slices"
	"strconv"
	"strings"
	"testing"

	"phalarope/api"
	"phalarope/tmpl"
)

// What templates are, by regular expressions, apart from the way that the package takes.
const (
	beyond   = `\x{A0}-\x{D7FF}\x{E000}-\x{FDCF}\x{FDF0}-\x{FFEF}\x{10000}-\x{1FFFD}\x{20000}-\x{2FFFD}\x{30000}-\x{3FFFD}\x{40000}-\x{4FFFD}\x{50000}-\x{5FFFD}\x{60000}-\x{6FFFD}\x{70000}-\x{7FFFD}\x{80000}-\x{8FFFD}\x{90000}-\x{9FFFD}\x{A0000}-\x{AFFFD}\x{B0000}-\x{BFFFD}\x{C0000}-\x{CFFFD}\x{D0000}-\x{DFFFD}\x{E1000}-\x{EFFFD}\x{F0000}-\x{FFFFD}\x{100000}-\x{10FFFD}`
	triplet  = `%[0-9A-Fa-f]{2}`
	aLiteral = `(?:[!#$&()*+,\-./0-9:;=?@A-Z\[\]_a-z~` + beyond + `]|` + triplet + `)+`
	aChar    = `(?:[A-Za-z0-9_]|` + triplet + `)`
	aName    = aChar + `(?:\.?` + aChar + `)*`
	variable = aName + `(?::[1-9][0-9]{0,3}|\*)?`
	braced   = `\{[+#./;?&]?` + variable + `(?:,` + variable + `)*\}`
)

var (
	aTemplate = regexp.MustCompile(`^(?:` + aLiteral + `|` + braced + `)*$`)
	aPart     = regexp.MustCompile(`\{[^}]*\}|[^{]+`)
)

// completions are texts of which one, behind any begin of a template, makes one of it: what a name, a prefix, a triplet or a character beyond ASCII may lack, with the end of an expression, and without.
var completions = []string{"", "}", "a}", "1}", "41}", "41", "\x80", "\xBF", "\x80\x80", "\xBF\x80", "\xBF\xBF", "\x80\x80\x80", "\xBF\x80\x80"}

func beginsTemplate(s string) bool {
	return slices.ContainsFunc(completions, func(more string) bool { return aTemplate.MatchString(s + more) })
}

// want is what Parse is to answer, by the chapter's words.
func want(s string) ([]api.Part, int, api.Errno) {
	if aTemplate.MatchString(s) {
		var t []api.Part
		for _, part := range aPart.FindAllString(s, -1) {
			t = append(t, partOf(part))
		}
		return t, len(s), api.OK
	}
	n := len(s)
	for n > 0 && !beginsTemplate(s[:n]) {
		n--
	}
	return nil, n, api.ErrForm
}

func partOf(s string) api.Part {
	if s[0] != '{' {
		return api.Part{Lit: s}
	}
	s = s[1 : len(s)-1]
	var p api.Part
	if strings.ContainsAny(s[:1], "+#./;?&") {
		p.Op = s[0]
		s = s[1:]
	}
	for _, x := range strings.Split(s, ",") {
		name, figures, _ := strings.Cut(x, ":")
		max, _ := strconv.Atoi(figures)
		name, star := strings.CutSuffix(name, "*")
		p.Specs = append(p.Specs, api.Spec{Name: name, Max: max, Star: star})
	}
	return p
}

// same holds templates against each other; nil and empty are the same.
func same(a, b []api.Part) bool {
	return len(a) == 0 && len(b) == 0 || reflect.DeepEqual(a, b)
}

// check holds what Parse answers against what it is to, and what is parsed against what it was.
func check(t *testing.T, s string) {
	t.Helper()
	p, n, e := tmpl.Parse(s)
	if wantP, wantN, wantE := want(s); !same(p, wantP) || n != wantN || e != wantE {
		t.Fatalf("Parse(%q) = %+v, %d, %v, not %+v, %d, %v", s, p, n, e, wantP, wantN, wantE)
	}
	if e == api.OK && (!tmpl.May(p) || tmpl.Put(p) != s) {
		t.Fatalf("%q is parsed as %+v, and put as %q", s, p, tmpl.Put(p))
	}
}

// allTexts tells every text of at most n of the pieces.
func allTexts(pieces []string, n int, tell func(s string)) {
	tell("")
	if n == 0 {
		return
	}
	for _, piece := range pieces {
		allTexts(pieces, n-1, func(s string) { tell(piece + s) })
	}
}

// whole are some templates.
var whole = []string{
	"", "a", "/", "{a}", "{+a}", "{#a}", "{.a}", "{/a}", "{;a}", "{?a}", "{&a}", "{a,b}", "{?a,b*}", "{a:3}", "{a:9999,b:1}",
	"{a}{b}", "x{a}y", "{a}x", "x{a}", "x/{+a,b:3}{&c*}%41\u00e9", "{%41.b_,c.d*}", "%2f", "\u00a0\uffef\U000E1000", "{a}{a}", "{a,a}",
	"http://example.com/~{u}/[x](y)!$&*+,;=@?#", "a:3*,b", "{1,2}", "{?%c3%A9}",
}

// P7.1: the operators are none, and seven bytes, and no others.
func TestOperator(t *testing.T) {
	for c := range 256 {
		if got := tmpl.Operator(byte(c)); got != (c == 0 || strings.Contains("+#./;?&", string([]byte{byte(c)}))) {
			t.Errorf("Operator(%d) = %v", c, got)
		}
	}
}

// lit and one are parts, by short words.
func lit(s string) api.Part { return api.Part{Lit: s} }

func one(op byte, specs ...api.Spec) api.Part { return api.Part{Op: op, Specs: specs} }

// P7.1: May and Put by hand, with what is neither a literal nor an expression, and what is both.
func TestMayAndPut(t *testing.T) {
	a, b := api.Spec{Name: "a"}, api.Spec{Name: "b", Star: true}
	for _, x := range []struct {
		t   []api.Part
		may bool
		put string
	}{
		{nil, true, ""},
		{[]api.Part{}, true, ""},
		{[]api.Part{lit("a")}, true, "a"},
		{[]api.Part{lit("a/%41\u00e9")}, true, "a/%41\u00e9"},
		{[]api.Part{one(0, a)}, true, "{a}"},
		{[]api.Part{one('?', a, b)}, true, "{?a,b*}"},
		{[]api.Part{one('+', a), one('+', a)}, true, "{+a}{+a}"},
		{[]api.Part{lit("x"), one('#', api.Spec{Name: "c.d", Max: 20}), lit("y")}, true, "x{#c.d:20}y"},
		{[]api.Part{one(0, a, a, a)}, true, "{a,a,a}"},
		{[]api.Part{{}}, false, ""},
		{[]api.Part{lit("a"), {}}, false, ""},
		{[]api.Part{{}, one(0, a)}, false, ""},
		{[]api.Part{lit("a"), lit("b")}, false, ""},
		{[]api.Part{one(0, a), lit("a"), lit("b")}, false, ""},
		{[]api.Part{lit("a"), one(0, a), lit("b"), lit("c")}, false, ""},
		{[]api.Part{{Lit: "a", Op: '+'}}, false, ""},
		{[]api.Part{{Lit: "a", Specs: []api.Spec{a}}}, false, ""},
		{[]api.Part{{Lit: "a", Op: '+', Specs: []api.Spec{a}}}, false, ""},
		{[]api.Part{{Lit: "a", Specs: []api.Spec{}}}, true, "a"},
		{[]api.Part{{Op: '+'}}, false, ""},
		{[]api.Part{{Op: '+', Specs: []api.Spec{}}}, false, ""},
		{[]api.Part{one('!', a)}, false, ""},
		{[]api.Part{one(',', a)}, false, ""},
		{[]api.Part{one('{', a)}, false, ""},
		{[]api.Part{one(0, api.Spec{})}, false, ""},
		{[]api.Part{one(0, a, api.Spec{})}, false, ""},
		{[]api.Part{one(0, a, api.Spec{Name: "b", Max: 1, Star: true})}, false, ""},
		{[]api.Part{one(0, a), one(0, api.Spec{Name: "b", Max: 10000})}, false, ""},
		{[]api.Part{one(0, api.Spec{Name: "a,b"})}, false, ""},
		{[]api.Part{lit("a b")}, false, ""},
		{[]api.Part{lit("{a}")}, false, ""},
		{[]api.Part{lit("%4")}, false, ""},
		{[]api.Part{lit("%4g")}, false, ""},
		{[]api.Part{lit("it's")}, false, ""},
		{[]api.Part{lit("a\xC3")}, false, ""},
		{[]api.Part{lit("\uFFFD")}, false, ""},
		{[]api.Part{one(0, a), lit("a\x00")}, false, ""},
	} {
		if may, put := tmpl.May(x.t), tmpl.Put(x.t); may != x.may || put != x.put {
			t.Errorf("%+v: May %v, Put %q", x.t, may, put)
		}
	}
}

// P7.1: of literals of one and of two bytes those may be that the chapter's words let be.
func TestLiterals(t *testing.T) {
	of := regexp.MustCompile(`^` + aLiteral + `$`)
	for a := range 256 {
		for b := range 256 {
			for _, s := range []string{string([]byte{byte(a), byte(b)}), string([]byte{'%', byte(a), byte(b)}), string([]byte{0xE0 | byte(a)&15, byte(b), 0xBF})} {
				if got := tmpl.May([]api.Part{lit(s)}); got != of.MatchString(s) {
					t.Fatalf("the literal %q: May %v", s, got)
				}
			}
		}
		s := string([]byte{byte(a)})
		if got := tmpl.May([]api.Part{lit(s)}); got != of.MatchString(s) {
			t.Fatalf("the literal %q: May %v", s, got)
		}
	}
}

// P7.2: Parse by hand, of what is a template.
func TestParse(t *testing.T) {
	for _, x := range []struct {
		s string
		t []api.Part
	}{
		{"", nil},
		{"a", []api.Part{lit("a")}},
		{"ab%41\u00e9", []api.Part{lit("ab%41\u00e9")}},
		{"{a}", []api.Part{one(0, api.Spec{Name: "a"})}},
		{"{?a,b*}", []api.Part{one('?', api.Spec{Name: "a"}, api.Spec{Name: "b", Star: true})}},
		{"{.a:3}{.a}", []api.Part{one('.', api.Spec{Name: "a", Max: 3}), one('.', api.Spec{Name: "a"})}},
		{"x{/a}y,z", []api.Part{lit("x"), one('/', api.Spec{Name: "a"}), lit("y,z")}},
		{"{%41.b}/", []api.Part{one(0, api.Spec{Name: "%41.b"}), lit("/")}},
	} {
		if p, n, e := tmpl.Parse(x.s); !same(p, x.t) || n != len(x.s) || e != api.OK {
			t.Errorf("Parse(%q) = %+v, %d, %v", x.s, p, n, e)
		}
		check(t, x.s)
	}
	for _, s := range whole {
		if _, _, e := tmpl.Parse(s); e != api.OK {
			t.Errorf("%q is not parsed", s)
		}
		check(t, s)
	}
}

// P7.2: Parse by hand, of what is none: from where on no template begins so.
func TestParseFaults(t *testing.T) {
	for _, x := range []struct {
		s string
		n int
	}{
		{"{!a}", 1}, {"{=a}", 1}, {"{,a}", 1}, {"{@a}", 1}, {"{|a}", 1}, {"{\x00a}", 1}, {"{ a}", 1}, {"{++a}", 2},
		{"{", 1}, {"a{", 2}, {"{+", 2}, {"{}", 1}, {"{+}", 2}, {"{{a}}", 1}, {"{a{", 2}, {"}", 0}, {"a}", 1}, {"{a}}", 3},
		{"{a", 2}, {"{a,", 3}, {"{a,}", 3}, {"{a,,b}", 3}, {"{a,b", 4}, {"{a b}", 2}, {"{a}{", 4}, {"{a}{b", 5},
		{"{a.}", 3}, {"{a..b}", 3}, {"{.}", 2}, {"{..a}", 2}, {"{%}", 2}, {"{%4}", 3}, {"{%4g}", 3}, {"{%41", 4}, {"{\u00e9}", 1},
		{"{a:}", 3}, {"{a:0}", 3}, {"{a:", 3}, {"{a:1", 4}, {"{a:10000}", 7}, {"{a*:1}", 3}, {"{a:1*}", 4}, {"{a**}", 3}, {"{a*", 3},
		{"{x,a:0}", 5}, {"{x,+a}", 3}, {"{?x,a:1,b.}", 10},
		{"a b", 1}, {" ", 0}, {"it's", 2}, {"a\"", 1}, {"<a>", 0}, {"a\\", 1}, {"a^", 1}, {"`", 0}, {"a|b", 1}, {"\x7F", 0}, {"a\x00", 1}, {"a\n", 1},
		{"%", 1}, {"%4", 2}, {"%4g", 2}, {"%g4", 1}, {"%%41", 1}, {"a%4{a}", 3}, {"{a}%", 4}, {"%41%", 4},
		{"\xC3", 1}, {"\xC3x", 1}, {"a\xC3{a}", 2}, {"\xC2\x80", 1}, {"\x80", 0}, {"\xFF", 0}, {"\xEF\xBF\xBD", 2}, {"x\xEF\xBF\xBE", 3}, {"\xED\xA0\x80", 1}, {"\xF3\xA0\x80\x80", 1}, {"\xF3\xA1", 2}, {"\xF4\x90", 1}, {"\xC0\xAF", 0},
	} {
		if p, n, e := tmpl.Parse(x.s); len(p) != 0 || n != x.n || e != api.ErrForm {
			t.Errorf("Parse(%q) = %+v, %d, %v, not %d", x.s, p, n, e, x.n)
		}
		check(t, x.s)
	}
}

// P7.2, P7.3: Parse of all short texts, by the chapter's words, and back.
func TestParseMany(t *testing.T) {
	allTexts([]string{"a", "{", "}", ",", "%", "4", ":", "*", "+", ".", " "}, 4, func(s string) { check(t, s) })
	allTexts([]string{"a", "%4", "1", ":1", "*", ",", "}", "{", "."}, 5, func(s string) { check(t, "{"+s) })
	allTexts([]string{"\xC2", "\xE1", "\xEF", "\xF3", "\x80", "\xA0", "\xBF", "{a}", "x"}, 4, func(s string) { check(t, s) })
}

// P7.2: Parse of templates with every byte laid into them, at every place, and with every byte left out of them.
func TestParseSpoilt(t *testing.T) {
	for _, s := range whole {
		for i := range len(s) + 1 {
			check(t, s[:i])
			for c := range 256 {
				check(t, s[:i]+string([]byte{byte(c)})+s[i:])
			}
			if i < len(s) {
				check(t, s[:i]+s[i+1:])
			}
		}
	}
}

// P7.3: what may be is put, and parsed as it was.
func TestThereAndBack(t *testing.T) {
	a, b, c := api.Spec{Name: "a"}, api.Spec{Name: "b.%41", Max: 9999}, api.Spec{Name: "_", Star: true}
	parts := []api.Part{lit("x"), lit("%aF"), lit("\U0010FFFD,"), {}, {Op: '+'}, lit("}")}
	for _, op := range "\x00+#./;?&!" {
		parts = append(parts, one(byte(op), a), one(byte(op), b, c, a))
	}
	some := 0
	for _, x := range parts {
		for _, y := range parts {
			for _, z := range parts {
				p := []api.Part{x, y, z}
				s := tmpl.Put(p)
				if !tmpl.May(p) {
					if s != "" {
						t.Fatalf("%+v is put as %q", p, s)
					}
					continue
				}
				some++
				if q, n, e := tmpl.Parse(s); !same(p, q) || n != len(s) || e != api.OK {
					t.Fatalf("%+v is put as %q, and parsed as %+v, %d, %v", p, s, q, n, e)
				}
			}
		}
	}
	if some < 1000 {
		t.Errorf("but %d of them may be", some)
	}
}

// P7.3: a template, and another one behind it, is one; so is what stands behind it, just if it is one itself.
func TestBehind(t *testing.T) {
	for _, a := range whole {
		for _, b := range append([]string{"{", "}", "%", "{!a}", "x{a", "\xC3", "a b"}, whole...) {
			_, n, e := tmpl.Parse(a + b)
			if _, m, f := tmpl.Parse(b); n != len(a)+m || e != f {
				t.Errorf("%q: %d, %v; but %q: %d, %v", a+b, n, e, b, m, f)
			}
			check(t, a+b)
		}
	}
}

// P7.2: Names and Once by hand.
func TestNames(t *testing.T) {
	for _, x := range []struct {
		s     string
		names []string
		once  bool
	}{
		{"", nil, true},
		{"abc", nil, true},
		{"{a}", []string{"a"}, true},
		{"{b,a}x{c}", []string{"b", "a", "c"}, true},
		{"{b,a}{a,c}", []string{"b", "a", "c"}, false},
		{"{a}{b}{a}", []string{"a", "b"}, false},
		{"{a,a}", []string{"a"}, false},
		{"{a:1,a*}", []string{"a"}, false},
		{"{+a}{?a:3}", []string{"a"}, false},
		{"{a,A,a.b,%41,%61,aa}", []string{"a", "A", "a.b", "%41", "%61", "aa"}, true},
		{"{%4a}{%4A}", []string{"%4a", "%4A"}, true},
		{"a{b}a{c}", []string{"b", "c"}, true},
	} {
		p, _, e := tmpl.Parse(x.s)
		if l, once := tmpl.Names(p), tmpl.Once(p); e != api.OK || !slices.Equal(l, x.names) || once != x.once {
			t.Errorf("%q: names %q, once %v", x.s, l, once)
		}
	}
}

// R3: what is handed in stays as it is, and what is told is the caller's own.
func TestOwn(t *testing.T) {
	const s = "x{?a,b*}y{a}"
	p, _, _ := tmpl.Parse(s)
	q, _, _ := tmpl.Parse(s)
	tmpl.May(p)
	tmpl.Put(p)
	tmpl.Once(p)
	names := tmpl.Names(p)
	names[0] = "z"
	if !same(p, q) || tmpl.Names(p)[0] != "a" {
		t.Errorf("%+v is no more what was parsed", p)
	}
	p[1].Specs = append(p[1].Specs[:1], api.Spec{Name: "c"}, api.Spec{Name: "d"})
	p[0].Lit = "z"
	if tmpl.Put(q) != s || tmpl.Put(p) != "z{?a,c,d}y{a}" {
		t.Errorf("%q and %q share something", tmpl.Put(p), tmpl.Put(q))
	}
}

// P1, P7.2: long texts end, soon.
func TestLong(t *testing.T) {
	const times = 200000
	for _, x := range []struct {
		once string
		more string
		n    int
		e    api.Errno
	}{
		{"{a}", "", 3 * times, api.OK},
		{"x{?a,b*}", "", 8 * times, api.OK},
		{"%41\u00e9", "", 5 * times, api.OK},
		{"%41\u00e9", "\xC3", 5*times + 1, api.ErrForm},
		{"{a}", "{", 3*times + 1, api.ErrForm},
		{"{a}", "}", 3 * times, api.ErrForm},
		{"{", "", 1, api.ErrForm},
		{"}", "", 0, api.ErrForm},
	} {
		s := strings.Repeat(x.once, times) + x.more
		if p, n, e := tmpl.Parse(s); n != x.n || e != x.e || e == api.OK && tmpl.Put(p) != s {
			t.Errorf("many %q, and %q: %d, %v", x.once, x.more, n, e)
		}
	}
	list := "{" + strings.Repeat("a,", times)
	if p, n, e := tmpl.Parse(list + "a}"); n != len(list)+2 || e != api.OK || len(p) != 1 || len(p[0].Specs) != times+1 || len(tmpl.Names(p)) != 1 || tmpl.Once(p) {
		t.Errorf("many variables: %d, %v", n, e)
	}
	if _, n, e := tmpl.Parse(list + "}"); n != len(list) || e != api.ErrForm {
		t.Errorf("many variables, and none: %d, %v", n, e)
	}
	var many []api.Part
	for i := range times {
		many = append(many, one(0, api.Spec{Name: strconv.Itoa(i)}))
	}
	if l := tmpl.Names(many); len(l) != times || l[times-1] != strconv.Itoa(times-1) || !tmpl.Once(many) {
		t.Errorf("many names: %d", len(l))
	}
}
