package expand_test

import (
	"fmt"
	"math"
	"reflect"
	"slices"
	"strconv"
	"strings"
	"testing"
	"unicode/utf8"
	"unsafe"

	"phalarope/api"
	"phalarope/expand"
	"phalarope/tmpl"
)

// The bytes that may stand in a URI, but for the % of triplets.
const (
	unreserved = "ABCDEFGHIJKLMNOPQRSTUVWXYZabcdefghijklmnopqrstuvwxyz0123456789-._~"
	reserved   = ":/?#[]@!$&'()*+,;="
	hex        = "0123456789ABCDEFabcdef"
)

// operators are the eight.
const operators = "\x00+#./;?&"

// text, list and pairs are values, by short words: pairs of keys and values in turn.
func text(s string) api.Value { return api.Value{Kind: api.Text, S: s} }

func list(l ...string) api.Value { return api.Value{Kind: api.List, L: l} }

func pairs(l ...string) api.Value {
	v := api.Value{Kind: api.Pairs}
	for i := 0; i < len(l); i += 2 {
		v.P = append(v.P, api.Pair{Key: l[i], Val: l[i+1]})
	}
	return v
}

// plain, star and prefix are variables, by short words.
func plain(name string) api.Spec { return api.Spec{Name: name} }

func star(name string) api.Spec { return api.Spec{Name: name, Star: true} }

func prefix(name string, most int) api.Spec { return api.Spec{Name: name, Max: most} }

// lit and expr are parts, by short words.
func lit(s string) api.Part { return api.Part{Lit: s} }

func expr(op byte, l ...api.Spec) api.Part { return api.Part{Op: op, Specs: l} }

// is is what a variable is.
func is(name string, v api.Value) api.Bind { return api.Bind{Name: name, V: v} }

// parsed is the template that a text is.
func parsed(t *testing.T, s string) []api.Part {
	t.Helper()
	p, _, e := tmpl.Parse(s)
	if e != api.OK {
		t.Fatalf("%q is no template", s)
	}
	return p
}

// rule is the tests' own picture of an operator.
type rule struct {
	op          byte
	first, sep  string
	named, keep bool
	empty       string
}

// ruleOf is chapter 10's table; false: it is no operator.
func ruleOf(op byte) (rule, bool) {
	rules := []rule{
		{0, "", ",", false, false, ""},
		{'+', "", ",", false, true, ""},
		{'#', "#", ",", false, true, ""},
		{'.', ".", ".", false, false, ""},
		{'/', "/", "/", false, false, ""},
		{';', ";", ";", true, false, ""},
		{'?', "?", "&", true, false, "="},
		{'&', "&", "&", true, false, "="},
	}
	i := slices.IndexFunc(rules, func(r rule) bool { return r.op == op })
	if i < 0 {
		return rule{}, false
	}
	return rules[i], true
}

// isTriplet tells whether a text begins with a triplet.
func isTriplet(s string) bool {
	return len(s) > 2 && s[0] == '%' && strings.IndexByte(hex, s[1]) >= 0 && strings.IndexByte(hex, s[2]) >= 0
}

// encoded is the tests' own picture of a text that is encoded.
func encoded(s string, keep bool) string {
	var out strings.Builder
	for i := 0; i < len(s); i++ {
		switch {
		case strings.IndexByte(unreserved, s[i]) >= 0 || keep && strings.IndexByte(reserved, s[i]) >= 0:
			out.WriteByte(s[i])
		case keep && isTriplet(s[i:]):
			out.WriteString(s[i : i+3])
			i += 2
		default:
			fmt.Fprintf(&out, "%%%02X", s[i])
		}
	}
	return out.String()
}

// named is the tests' own picture of a name with what is behind it.
func named(r rule, name, s string) string {
	if len(s) > 0 {
		return name + "=" + s
	}
	return name + r.empty
}

// texts are the texts of a value.
func texts(v api.Value) []string {
	switch v.Kind {
	case api.Text:
		return []string{v.S}
	case api.List:
		return v.L
	case api.Pairs:
		var l []string
		for _, p := range v.P {
			l = append(l, p.Key, p.Val)
		}
		return l
	}
	return nil
}

// fault is the error that the tests' own picture has of a variable whose value is defined.
func fault(x api.Spec, v api.Value) api.Errno {
	if x.Max > 0 && v.Kind != api.Text {
		return api.ErrPrefix
	}
	for _, s := range texts(v) {
		if !utf8.ValidString(s) {
			return api.ErrUTF8
		}
	}
	return api.OK
}

// one is the tests' own picture of the text of a variable, whose value is defined and has no fault.
func one(r rule, x api.Spec, v api.Value) string {
	var parts []string
	l := texts(v)
	switch {
	case v.Kind == api.Text:
		s := v.S
		if c := []rune(s); x.Max > 0 && x.Max < len(c) {
			s = string(c[:x.Max])
		}
		s = encoded(s, r.keep)
		if r.named {
			return named(r, x.Name, s)
		}
		return s
	case !x.Star:
		for _, s := range l {
			parts = append(parts, encoded(s, r.keep))
		}
		if r.named {
			return x.Name + "=" + strings.Join(parts, ",")
		}
		return strings.Join(parts, ",")
	case v.Kind == api.List:
		for _, s := range l {
			s = encoded(s, r.keep)
			if r.named {
				s = named(r, x.Name, s)
			}
			parts = append(parts, s)
		}
	default:
		for i := 0; i < len(l); i += 2 {
			if r.named {
				parts = append(parts, named(r, encoded(l[i], true), encoded(l[i+1], r.keep)))
			} else {
				parts = append(parts, encoded(l[i], r.keep)+"="+encoded(l[i+1], r.keep))
			}
		}
	}
	return strings.Join(parts, r.sep)
}

// told is the tests' own picture of what Part tells of a part that may be.
func told(p api.Part, a []api.Bind) (string, api.Errno) {
	if p.Lit != "" {
		return encoded(p.Lit, true), api.OK
	}
	r, _ := ruleOf(p.Op)
	var l []string
	for _, x := range p.Specs {
		i := slices.IndexFunc(a, func(b api.Bind) bool { return b.Name == x.Name })
		if i < 0 || len(texts(a[i].V)) == 0 {
			continue
		}
		if e := fault(x, a[i].V); e != api.OK {
			return "", e
		}
		l = append(l, one(r, x, a[i].V))
	}
	if len(l) == 0 {
		return "", api.OK
	}
	return r.first + strings.Join(l, r.sep), api.OK
}

// toldAll is the tests' own picture of what All tells of a template that may be.
func toldAll(p []api.Part, a []api.Bind, most int) (string, api.Errno) {
	if most < 0 {
		return "", api.ErrArg
	}
	whole := ""
	for _, x := range p {
		s, e := told(x, a)
		if e != api.OK {
			return "", e
		}
		whole += s
	}
	if len(whole) > most {
		return "", api.ErrLong
	}
	return whole, api.OK
}

// check holds All of a template that may be, and Part of its parts, against the picture.
func check(t *testing.T, p []api.Part, a []api.Bind, most int) {
	t.Helper()
	want, wantE := toldAll(p, a, most)
	if s, e := expand.All(p, a, most); s != want || e != wantE {
		t.Fatalf("All(%+v, %+v, %d) = %q, %v, not %q, %v", p, a, most, s, e, want, wantE)
	}
	for _, x := range p {
		want, wantE = told(x, a)
		if s, e := expand.Part(x, a); s != want || e != wantE {
			t.Fatalf("Part(%+v, %+v) = %q, %v, not %q, %v", x, a, s, e, want, wantE)
		}
	}
}

// inURI tells whether a text has nothing but bytes that may stand in a URI, and each % begins a triplet.
func inURI(s string) bool {
	for i := 0; i < len(s); i++ {
		if s[i] == '%' && !isTriplet(s[i:]) || s[i] != '%' && strings.IndexByte(unreserved+reserved, s[i]) < 0 {
			return false
		}
	}
	return true
}

// P12.1: Literal by hand, and of every byte: what is reserved stays, and so do triplets; nothing need be a template's literal.
func TestLiteral(t *testing.T) {
	for _, x := range []struct{ s, want string }{
		{"", ""},
		{unreserved, unreserved},
		{reserved, reserved},
		{"http://x/?a=b#c", "http://x/?a=b#c"},
		{"\u00e9%41", "%C3%A9%41"},
		{"%c3%A9", "%c3%A9"},
		{"%", "%25"},
		{"%4", "%254"},
		{"%4g%%41", "%254g%25%41"},
		{"a b", "a%20b"},
		{"{a}", "%7Ba%7D"},
		{"\x00\x7F\xFF", "%00%7F%FF"},
		{"\u20ac\U0001F600", "%E2%82%AC%F0%9F%98%80"},
	} {
		if s := expand.Literal(x.s); s != x.want {
			t.Errorf("Literal(%q) = %q", x.s, s)
		}
	}
	for c := range 256 {
		for d := range 256 {
			for _, s := range []string{string([]byte{byte(c), byte(d)}), string([]byte{'%', byte(c), byte(d)})} {
				if got := expand.Literal(s); got != encoded(s, true) || !inURI(got) {
					t.Errorf("Literal(%q) = %q", s, got)
				}
			}
		}
	}
}

// rfc is what the variables of RFC 6570's section 3.2 are.
func rfc() []api.Bind {
	return []api.Bind{
		is("count", list("one", "two", "three")), is("dom", list("example", "com")), is("dub", text("me/too")), is("hello", text("Hello World!")),
		is("half", text("50%")), is("var", text("value")), is("who", text("fred")), is("base", text("http://example.com/home/")), is("path", text("/foo/bar")),
		is("list", list("red", "green", "blue")), is("keys", pairs("semi", ";", "dot", ".", "comma", ",")), is("v", text("6")), is("x", text("1024")), is("y", text("768")),
		is("empty", text("")), is("empty_keys", pairs()), is("undef", api.Value{}),
	}
}

// P12.1, P12.2, P3: RFC 6570's own examples, of each operator.
func TestExamples(t *testing.T) {
	for _, x := range []struct{ s, want string }{
		{"{count}", "one,two,three"}, {"{count*}", "one,two,three"}, {"{/count}", "/one,two,three"}, {"{/count*}", "/one/two/three"},
		{"{;count}", ";count=one,two,three"}, {"{;count*}", ";count=one;count=two;count=three"}, {"{?count}", "?count=one,two,three"},
		{"{?count*}", "?count=one&count=two&count=three"}, {"{&count*}", "&count=one&count=two&count=three"},
		{"{var}", "value"}, {"{hello}", "Hello%20World%21"}, {"{half}", "50%25"}, {"O{empty}X", "OX"}, {"O{undef}X", "OX"}, {"{x,y}", "1024,768"},
		{"{x,hello,y}", "1024,Hello%20World%21,768"}, {"?{x,empty}", "?1024,"}, {"?{x,undef}", "?1024"}, {"?{undef,y}", "?768"}, {"{var:3}", "val"},
		{"{var:30}", "value"}, {"{list}", "red,green,blue"}, {"{list*}", "red,green,blue"}, {"{keys}", "semi,%3B,dot,.,comma,%2C"}, {"{keys*}", "semi=%3B,dot=.,comma=%2C"},
		{"{+var}", "value"}, {"{+hello}", "Hello%20World!"}, {"{+half}", "50%25"}, {"{base}index", "http%3A%2F%2Fexample.com%2Fhome%2Findex"},
		{"{+base}index", "http://example.com/home/index"}, {"O{+empty}X", "OX"}, {"O{+undef}X", "OX"}, {"{+path}/here", "/foo/bar/here"}, {"here?ref={+path}", "here?ref=/foo/bar"},
		{"up{+path}{var}/here", "up/foo/barvalue/here"}, {"{+x,hello,y}", "1024,Hello%20World!,768"}, {"{+path,x}/here", "/foo/bar,1024/here"}, {"{+path:6}/here", "/foo/b/here"},
		{"{+list}", "red,green,blue"}, {"{+list*}", "red,green,blue"}, {"{+keys}", "semi,;,dot,.,comma,,"}, {"{+keys*}", "semi=;,dot=.,comma=,"},
		{"{#var}", "#value"}, {"{#hello}", "#Hello%20World!"}, {"{#half}", "#50%25"}, {"foo{#empty}", "foo#"}, {"foo{#undef}", "foo"}, {"{#x,hello,y}", "#1024,Hello%20World!,768"},
		{"{#path,x}/here", "#/foo/bar,1024/here"}, {"{#path:6}/here", "#/foo/b/here"}, {"{#list}", "#red,green,blue"}, {"{#list*}", "#red,green,blue"},
		{"{#keys}", "#semi,;,dot,.,comma,,"}, {"{#keys*}", "#semi=;,dot=.,comma=,"},
		{"{.who}", ".fred"}, {"{.who,who}", ".fred.fred"}, {"{.half,who}", ".50%25.fred"}, {"www{.dom*}", "www.example.com"}, {"X{.var}", "X.value"}, {"X{.empty}", "X."},
		{"X{.undef}", "X"}, {"X{.var:3}", "X.val"}, {"X{.list}", "X.red,green,blue"}, {"X{.list*}", "X.red.green.blue"}, {"X{.keys}", "X.semi,%3B,dot,.,comma,%2C"},
		{"X{.keys*}", "X.semi=%3B.dot=..comma=%2C"}, {"X{.empty_keys}", "X"}, {"X{.empty_keys*}", "X"},
		{"{/who}", "/fred"}, {"{/who,who}", "/fred/fred"}, {"{/half,who}", "/50%25/fred"}, {"{/who,dub}", "/fred/me%2Ftoo"}, {"{/var}", "/value"}, {"{/var,empty}", "/value/"},
		{"{/var,undef}", "/value"}, {"{/var,x}/here", "/value/1024/here"}, {"{/var:1,var}", "/v/value"}, {"{/list}", "/red,green,blue"}, {"{/list*}", "/red/green/blue"},
		{"{/list*,path:4}", "/red/green/blue/%2Ffoo"}, {"{/keys}", "/semi,%3B,dot,.,comma,%2C"}, {"{/keys*}", "/semi=%3B/dot=./comma=%2C"},
		{"{;who}", ";who=fred"}, {"{;half}", ";half=50%25"}, {"{;empty}", ";empty"}, {"{;v,empty,who}", ";v=6;empty;who=fred"}, {"{;v,bar,who}", ";v=6;who=fred"},
		{"{;x,y}", ";x=1024;y=768"}, {"{;x,y,empty}", ";x=1024;y=768;empty"}, {"{;x,y,undef}", ";x=1024;y=768"}, {"{;hello:5}", ";hello=Hello"}, {"{;list}", ";list=red,green,blue"},
		{"{;list*}", ";list=red;list=green;list=blue"}, {"{;keys}", ";keys=semi,%3B,dot,.,comma,%2C"}, {"{;keys*}", ";semi=%3B;dot=.;comma=%2C"},
		{"{?who}", "?who=fred"}, {"{?half}", "?half=50%25"}, {"{?x,y}", "?x=1024&y=768"}, {"{?x,y,empty}", "?x=1024&y=768&empty="}, {"{?x,y,undef}", "?x=1024&y=768"},
		{"{?var:3}", "?var=val"}, {"{?list}", "?list=red,green,blue"}, {"{?list*}", "?list=red&list=green&list=blue"}, {"{?keys}", "?keys=semi,%3B,dot,.,comma,%2C"},
		{"{?keys*}", "?semi=%3B&dot=.&comma=%2C"},
		{"{&who}", "&who=fred"}, {"{&half}", "&half=50%25"}, {"?fixed=yes{&x}", "?fixed=yes&x=1024"}, {"{&x,y,empty}", "&x=1024&y=768&empty="}, {"{&x,y,undef}", "&x=1024&y=768"},
		{"{&var:3}", "&var=val"}, {"{&list}", "&list=red,green,blue"}, {"{&list*}", "&list=red&list=green&list=blue"}, {"{&keys}", "&keys=semi,%3B,dot,.,comma,%2C"},
		{"{&keys*}", "&semi=%3B&dot=.&comma=%2C"},
	} {
		p := parsed(t, x.s)
		if s, e := expand.All(p, rfc(), len(x.want)); s != x.want || e != api.OK {
			t.Errorf("All of %q = %q, %v", x.s, s, e)
		}
		check(t, p, rfc(), math.MaxInt)
	}
}

// P12.1, P12.2: by hand, at the edges: what is empty, what isn't defined, what stands first and between, and how often a name is.
func TestEdges(t *testing.T) {
	a := []api.Bind{
		is("e", text("")), is("one", text("1")), is("nothing", api.Value{}), is("none", list()), is("no", pairs()), is("le", list("", "")), is("pe", pairs("", "")), is("\u00e9", text("x")),
		is("nothing", text("later")), is("one", text("2")), is("kind", api.Value{Kind: 9, S: "x"}), is("l", list("/", "%41")), is("p", pairs("/%41", "/%41")),
	}
	for _, x := range []struct{ s, want string }{
		{"", ""},
		{"x{?a,b}", "x"},
		{"x{?one,b}", "x?one=1"},
		// What is defined, but empty, has what stands first, and between.
		{"{e}", ""}, {"{+e}", ""}, {"{#e}", "#"}, {"{.e}", "."}, {"{/e}", "/"}, {"{;e}", ";e"}, {"{?e}", "?e="}, {"{&e}", "&e="},
		{"{e,e}", ","}, {"{+e,e}", ","}, {"{#e,e}", "#,"}, {"{.e,e}", ".."}, {"{/e,e}", "//"}, {"{;e,e}", ";e;e"}, {"{?e,e}", "?e=&e="}, {"{&e,e}", "&e=&e="},
		{"{le}", ","}, {"{/le}", "/,"}, {"{/le*}", "//"}, {"{/le*,e}", "///"}, {"{;le}", ";le=,"}, {"{;le*}", ";le;le"},
		{"{pe}", ","}, {"{pe*}", "="}, {"{;pe*}", ";"}, {"{;pe*,pe*}", ";;"}, {"{?pe*}", "?="}, {"{;pe*,one}", ";;one=1"},
		// What isn't defined has neither, wherever it stands.
		{"{nothing}", ""}, {"{#nothing}", ""}, {"{/none,no}", ""}, {"{;none*}", ""}, {"{?kind}", ""}, {"{&nothing:3}", ""}, {"{#none:3}", ""},
		{"{/nothing,one}", "/1"}, {"{/one,nothing}", "/1"}, {"{/nothing,one,none,one,no}", "/1/1"}, {"{nothing,one,kind,e}", "1,"}, {"{#none:3,one:3}", "#1"},
		// Each expression begins anew, and what one is has nothing to do with the next one.
		{"{?one}{?one}", "?one=1?one=1"}, {"{?nothing}{?one}", "?one=1"}, {"{/one}{.nothing}{/one}", "/1/1"}, {"{one}{one}", "11"}, {"{#one,one}{&one}", "#1,1&one=1"},
		// Of literals, what is reserved stays, and triplets.
		{"a/b?c#d", "a/b?c#d"}, {"\u00e9%41%4f/{one}%c3%a9", "%C3%A9%41%4f/1%c3%a9"}, {"a{nothing}b{one}c", "ab1c"},
		// Of variables just with a + or #, but for keys that stand for names.
		{"{l}{+l}", "%2F,%2541/,%41"}, {"{/l*}", "/%2F/%2541"}, {"{#l*,l}", "#/,%41,/,%41"}, {"{?p*,p}", "?/%41=%2F%2541&p=%2F%2541,%2F%2541"},
	} {
		p := parsed(t, x.s)
		if s, e := expand.All(p, a, len(x.want)); s != x.want || e != api.OK {
			t.Errorf("All of %q = %q, %v", x.s, s, e)
		}
		check(t, p, a, math.MaxInt)
	}
	for _, none := range [][]api.Part{nil, {}} {
		if s, e := expand.All(none, a, 0); s != "" || e != api.OK {
			t.Errorf("All of nothing = %q, %v", s, e)
		}
	}
}

// P12.1, R1: what alone is no template is refused, whatever is bound, and whatever else is wrong.
func TestPartErrors(t *testing.T) {
	a := []api.Bind{is("a", text("\xFF")), is("l", list("x"))}
	for _, p := range []api.Part{
		{}, {Specs: []api.Spec{}}, {Op: '?'}, {Op: '!'},
		{Lit: "x", Op: '+'}, {Lit: "x", Specs: []api.Spec{plain("b")}}, {Lit: "{"}, {Lit: "a b"}, {Lit: "%4"}, {Lit: "\xFF"}, {Lit: "\u0080"}, {Lit: "x\x00"},
		expr('!', plain("a")), expr('*', plain("b")), expr(',', plain("b")), expr('\xFF', plain("b")), expr(0, plain("")), expr(0, plain("a..b")), expr(0, plain("\u00e9")),
		expr('?', plain("b"), plain("")), expr(0, plain("a"), plain("b c")), expr(0, prefix("l", 1), prefix("b", -1)), expr('/', prefix("b", api.MaxPrefix+1)),
		expr('/', prefix("b", math.MinInt)), expr('/', prefix("b", math.MaxInt)), expr('#', api.Spec{Name: "b", Max: 1, Star: true}),
	} {
		for _, b := range [][]api.Bind{nil, a} {
			if s, e := expand.Part(p, b); s != "" || e != api.ErrArg {
				t.Errorf("Part(%+v) = %q, %v", p, s, e)
			}
			for _, q := range [][]api.Part{{p}, {expr(0, plain("x")), p}, {p, expr(0, plain("x"))}, {expr(0, plain("a")), p}, {expr(0, prefix("l", 1)), p}} {
				if s, e := expand.All(q, b, 0); s != "" || e != api.ErrArg {
					t.Errorf("All(%+v) = %q, %v", q, s, e)
				}
			}
		}
	}
	// A prefix that is none is refused even where another variable is wrong ahead of it.
	if s, e := expand.Part(expr(0, prefix("l", 1), plain("a"), prefix("x", -1)), a); s != "" || e != api.ErrArg {
		t.Errorf("Part = %q, %v", s, e)
	}
}

// P12.1, P12.2, R1: the first error that a variable has, in turn; what isn't defined has none; the bound comes last.
func TestErrors(t *testing.T) {
	a := []api.Bind{
		is("bad", text("x\xC3")), is("l", list("x")), is("p", pairs("k", "v")), is("badl", list("", "\xFF")), is("badp", pairs("\x80", "")), is("ok", text("1")),
		is("none", list()), is("kind", api.Value{Kind: -1, S: "\xFF"}), is("hidden", api.Value{Kind: api.Text, S: "x", L: []string{"\xFF"}}), is("twice", text("1")), is("twice", text("\xFF")),
	}
	for _, x := range []struct {
		s string
		e api.Errno
	}{
		{"{bad}", api.ErrUTF8}, {"{bad:1}", api.ErrUTF8}, {"{badl*}", api.ErrUTF8}, {"{?badp}", api.ErrUTF8}, {"{;badp*}", api.ErrUTF8},
		{"{l:1}", api.ErrPrefix}, {"{#p:1}", api.ErrPrefix}, {"{badl:1}", api.ErrPrefix}, {"{&badp:1}", api.ErrPrefix},
		{"{l:1,bad}", api.ErrPrefix}, {"{bad,l:1}", api.ErrUTF8}, {"{ok,bad,l:1}", api.ErrUTF8}, {"{x,ok,l:1,bad}", api.ErrPrefix},
		{"{l:1}{bad}", api.ErrPrefix}, {"{bad}{l:1}", api.ErrUTF8}, {"a{ok}b{x}c{/ok,bad}{l:1}", api.ErrUTF8}, {"abc{?x}{l:1}{bad}", api.ErrPrefix},
		{"{none:1,kind:1,x:1}", api.OK}, {"{kind}{kind*}", api.OK}, {"{hidden,twice}", api.OK}, {"{ok:1}", api.OK}, {"{l,p}", api.OK},
	} {
		p := parsed(t, x.s)
		// What is too long is told just if no variable is wrong, even behind that.
		for _, most := range []int{0, 1, 2, 3, 4, 5, 6, 50, math.MaxInt} {
			s, e := expand.All(p, a, most)
			if x.e != api.OK && (s != "" || e != x.e) || x.e == api.OK && e != api.OK && e != api.ErrLong {
				t.Errorf("All of %q, %d = %q, %v", x.s, most, s, e)
			}
			check(t, p, a, most)
		}
		for _, most := range []int{-1, -2, math.MinInt} {
			if s, e := expand.All(p, a, most); s != "" || e != api.ErrArg {
				t.Errorf("All of %q, %d = %q, %v", x.s, most, s, e)
			}
		}
	}
}

// P12.2: two literals side by side may not be, though each alone may; expressions may.
func TestSideBySide(t *testing.T) {
	for _, x := range []struct {
		p    []api.Part
		want string
		e    api.Errno
	}{
		{[]api.Part{lit("a"), lit("b")}, "", api.ErrArg},
		{[]api.Part{expr(0, plain("x")), lit("a"), lit("b"), expr(0, plain("x"))}, "", api.ErrArg},
		{[]api.Part{lit("a"), expr(0, plain("x")), lit("b")}, "ab", api.OK},
		{[]api.Part{expr('?', plain("y")), expr('?', plain("y"))}, "?y=1?y=1", api.OK},
	} {
		if s, e := expand.All(x.p, []api.Bind{is("y", text("1"))}, 9); s != x.want || e != x.e {
			t.Errorf("All(%+v) = %q, %v", x.p, s, e)
		}
	}
}

// P12.2: every bound, up to the text's length and beyond it.
func TestMost(t *testing.T) {
	a := []api.Bind{is("a", text("\u20ac/")), is("l", list("x", "", "%41")), is("e", text(""))}
	for _, s := range []string{"", "abc", "\u00e9", "%41", "{a}", "{+a}", "{?a,l*,e}", "x{#e}{#e}", "{/l*}y{;e}", "{x}{.x}", "a{x}b{l:2}", "{e}{e}"} {
		p := parsed(t, s)
		whole, e := expand.All(p, a, math.MaxInt)
		for most := range len(whole) + 9 {
			check(t, p, a, most)
			if got, gotE := expand.All(p, a, most); e == api.OK && (gotE == api.ErrLong) != (most < len(whole)) || got != "" && got != whole {
				t.Errorf("All of %q, %d = %q, %v", s, most, got, gotE)
			}
		}
	}
}

// samples are values of all sorts, also such as aren't defined, or aren't valid.
func samples() []api.Value {
	l := []api.Value{
		{}, {S: "x"}, {Kind: 4, S: "x"}, {Kind: -1, L: []string{"x"}}, list(), pairs(), {Kind: api.Pairs, L: []string{"x"}}, {Kind: api.List, S: "x"},
		text("\xFF"), text("xy\xC3"), list("x", "\x80"), pairs("", "\xFF"), pairs("\xFF", ""), {Kind: api.Text, S: "x", L: []string{"\xFF"}},
	}
	for _, s := range []string{"", "xyz", "/", "%41", "\u00e9,\u20ac", " %"} {
		l = append(l, text(s), list(s), list(s, "", "1"), pairs(s, "1"), pairs("k", s, s, s))
	}
	return l
}

// specs are variables of all sorts.
func specs() []api.Spec {
	return []api.Spec{plain("a"), star("a"), prefix("a", 1), prefix("a", 2), plain("b"), star("b"), prefix("b", 1), plain("c.%4a")}
}

// P12.1: all bytes as operators, of one variable and of two, of values of all sorts.
func TestAll(t *testing.T) {
	values := samples()
	for c := range 256 {
		op := byte(c)
		if _, ok := ruleOf(op); !ok {
			if s, e := expand.Part(expr(op, plain("a")), []api.Bind{is("a", text("x"))}); s != "" || e != api.ErrArg {
				t.Errorf("Part(%q) = %q, %v", op, s, e)
			}
			continue
		}
		for _, v := range values {
			for _, w := range values {
				a := []api.Bind{is("a", v), is("c.%4a", text("c")), is("b", w), is("a", w)}
				for _, x := range specs() {
					check(t, []api.Part{expr(op, x)}, a, math.MaxInt)
					for _, y := range []api.Spec{plain("a"), star("b"), prefix("b", 1)} {
						check(t, []api.Part{expr(op, x, y)}, a, 8)
					}
				}
			}
		}
	}
}

// P12.2: all templates of up to three of a few parts, where no two literals stand side by side, against a few bounds.
func TestParts(t *testing.T) {
	parts := []api.Part{
		lit("x/"), lit("\u00e9%41"), expr(0, plain("e")), expr('/', plain("u"), plain("a")), expr('#', plain("e")), expr('?', star("l"), plain("u")), expr('+', plain("u")),
		expr(';', plain("a"), plain("e")), expr(0, prefix("l", 1)), expr('.', plain("bad")), {}, expr('!', plain("a")),
	}
	a := []api.Bind{is("e", text("")), is("a", text("a/b")), is("l", list("1", "\u00e9")), is("bad", text("\xFF"))}
	for _, p := range parts {
		for _, q := range parts {
			for _, r := range parts {
				for _, l := range [][]api.Part{{p}, {p, q}, {p, q, r}} {
					if may(l) {
						for _, most := range []int{-1, 0, 1, 9, 17, math.MaxInt} {
							check(t, l, a, most)
						}
					} else if s, e := expand.All(l, a, 99); s != "" || e != api.ErrArg {
						t.Fatalf("All(%+v) = %q, %v", l, s, e)
					}
				}
			}
		}
	}
}

// may tells whether parts, of those that TestParts has, are a template.
func may(l []api.Part) bool {
	for i, p := range l {
		if p.Lit == "" && len(p.Specs) == 0 || p.Op == '!' || i > 0 && p.Lit != "" && l[i-1].Lit != "" {
			return false
		}
	}
	return true
}

// P12.3: variables that don't stand in the template play no part, whatever they are, and wherever they stand; nor do those that aren't defined.
func TestNoPart(t *testing.T) {
	a := []api.Bind{is("a", text("1")), is("l", list("x", "y")), is("p", pairs("k", "v"))}
	others := []api.Bind{
		is("A", text("2")), is("aa", text("\xFF")), is("", text("x")), is("\xFF", list("\xFF")), is("a b", text("x")), is("u", api.Value{}), is("v", list()), is("w", api.Value{Kind: 7, S: "\xFF"}), is("a.l", pairs("\xFF", "")),
	}
	for _, s := range []string{"", "x", "{a,l,p}", "{?a,u,l*,v,p*,w}", "{u}{#v*}{/w}x", "{;p*,u:3,a:1}", "{+v:1,u,l}", "{l:1}"} {
		p := parsed(t, s)
		want, wantE := expand.All(p, a, 99)
		for at := range len(a) + 1 {
			more := slices.Concat(a[:at], others, a[at:])
			if got, e := expand.All(p, more, 99); got != want || e != wantE {
				t.Errorf("All of %q = %q, %v, not %q, %v", s, got, e, want, wantE)
			}
			check(t, p, more, 99)
		}
	}
	// An expression's variables that aren't defined may as well not stand in it.
	for _, op := range []byte(operators) {
		want, _ := expand.Part(expr(op, plain("a"), star("l")), a)
		for _, l := range [][]api.Spec{{plain("u"), plain("a"), star("l")}, {plain("a"), star("v"), star("l")}, {plain("a"), star("l"), prefix("w", 2)}, {plain("z"), plain("u"), plain("a"), plain("v"), star("l"), plain("w")}} {
			if s, e := expand.Part(expr(op, l...), append(others, a...)); s != want || e != api.OK {
				t.Errorf("Part(%q, %+v) = %q, %v, not %q", op, l, s, e, want)
			}
		}
	}
}

// P12.3: what is told may stand in a URI, whatever the texts are.
func TestInURI(t *testing.T) {
	var all strings.Builder
	for c := range 0x3000 {
		if utf8.ValidRune(rune(c)) {
			all.WriteRune(rune(c))
		}
	}
	for _, v := range append(samples(), text(all.String()), list(all.String(), "\U0010FFFF"), pairs(all.String(), all.String())) {
		for _, op := range []byte(operators) {
			for _, x := range specs() {
				p := []api.Part{lit("\u00e9/%4a"), expr(op, x, star("a")), lit("[\u20ac]"), expr(op, star("a"))}
				if s, e := expand.All(p, []api.Bind{is("a", v), is("b", text("%"))}, math.MaxInt); !inURI(s) || (s == "") != (e != api.OK) {
					t.Errorf("All(%+v) = %q, %v", p, s, e)
				}
			}
		}
	}
}

// R2: nil and empty are the same.
func TestNil(t *testing.T) {
	for _, none := range [][]api.Bind{nil, {}} {
		for _, l := range [][]string{nil, {}} {
			if s, e := expand.Part(expr('?', star("a")), append(none, is("a", api.Value{Kind: api.List, L: l}))); s != "" || e != api.OK {
				t.Errorf("Part = %q, %v", s, e)
			}
		}
		if s, e := expand.Part(api.Part{Lit: "x", Specs: []api.Spec{}}, none); s != "x" || e != api.OK {
			t.Errorf("Part = %q, %v", s, e)
		}
		if s, e := expand.All([]api.Part{expr('?', plain("a")), {Lit: "x", Specs: []api.Spec{}}}, none, 1); s != "x" || e != api.OK {
			t.Errorf("All = %q, %v", s, e)
		}
	}
}

// shares tells whether the first byte of a text stands where the other one stands.
func shares(s, other string) bool {
	at, from := uintptr(unsafe.Pointer(unsafe.StringData(s))), uintptr(unsafe.Pointer(unsafe.StringData(other)))
	return s != "" && from <= at && at < from+uintptr(len(other))
}

// R3: what is handed in stays as it is, and shares no memory with what is told.
func TestOwn(t *testing.T) {
	long := strings.Repeat("x", 100)
	fresh := func() ([]api.Part, []api.Bind) {
		return []api.Part{lit(long), expr('?', plain("b"), star("a"), prefix("c", 3)), expr(0, plain("u"))},
			[]api.Bind{is("b", list(long, "")), is("a", pairs(long, "1", "", "/")), is("c", text(long)), is("c", text("2")), is("u", api.Value{S: "x"})}
	}
	p, a := fresh()
	first, e := expand.All(p, a, 9999)
	second, _ := expand.All(p, a, 9999)
	if first != second || e != api.OK {
		t.Errorf("All = %q, then %q, %v", first, second, e)
	}
	for _, x := range p {
		expand.Part(x, a)
	}
	expand.All(p, a, 1)
	if q, b := fresh(); !reflect.DeepEqual(p, q) || !reflect.DeepEqual(a, b) {
		t.Errorf("%+v, %+v aren't as they were", p, a)
	}
	for _, x := range []api.Part{lit(long), expr(0, plain("c")), expr(0, plain("l")), expr(0, plain("l"), plain("u"))} {
		b := []api.Bind{is("c", text(long)), is("l", list(long))}
		s, _ := expand.Part(x, b)
		whole, _ := expand.All([]api.Part{x}, b, 100)
		if s != long || whole != long || shares(s, long) || shares(whole, long) {
			t.Errorf("%q, %q share memory with what they were asked of", s, whole)
		}
	}
	if shares(expand.Literal(long), long) {
		t.Error("a literal shares memory")
	}
}

// P1, P12.2: many parts, many variables, and long texts end, soon, with a bound that is great, or small.
func TestMany(t *testing.T) {
	const times = 100000
	var p []api.Part
	var l []api.Spec
	var want, slashes strings.Builder
	for i := range times {
		n := strconv.Itoa(i)
		p = append(p, lit(n), expr('/', plain("a"), plain("u")))
		l = append(l, plain("a"), prefix("u", 1))
		want.WriteString(n + "/%2F")
		slashes.WriteString(",%2F")
	}
	a := []api.Bind{is("a", text("/"))}
	if s, e := expand.All(p, a, math.MaxInt); s != want.String() || e != api.OK {
		t.Error("many parts")
	}
	if s, e := expand.All(p, a, 1000); s != "" || e != api.ErrLong {
		t.Error("many parts, and a small bound")
	}
	if s, e := expand.Part(expr(0, l...), a); s != slashes.String()[1:] || e != api.OK {
		t.Error("many variables")
	}
	if s, e := expand.All(append(p, expr(0, prefix("l", 1))), append(a, is("l", list("x"))), 0); s != "" || e != api.ErrPrefix {
		t.Error("many parts, and an error at their end")
	}
	long := strings.Repeat("\u20ac/", times)
	if s, e := expand.Part(expr('#', plain("x")), []api.Bind{is("x", text(long))}); s != "#"+strings.Repeat("%E2%82%AC/", times) || e != api.OK {
		t.Error("a long text")
	}
	if s := expand.Literal(long); s != strings.Repeat("%E2%82%AC/", times) {
		t.Error("a long literal")
	}
}
