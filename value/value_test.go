package value_test

import (
	"bytes"
	"math"
	"reflect"
	"slices"
	"strconv"
	"testing"
	"unicode/utf8"

	"phalarope/api"
	"phalarope/value"
)

// picture is the tests' own picture of a value: its kind, 0 if it isn't defined, and its texts, as bytes.
type picture struct {
	kind  int
	texts [][]byte
}

// pictured reads a value by the chapter's words, by none of the package's functions.
func pictured(v api.Value) picture {
	p := picture{kind: v.Kind}
	add := func(s string) { p.texts = append(p.texts, []byte(s)) }
	if v.Kind == api.Text {
		add(v.S)
	}
	if v.Kind == api.List {
		for _, s := range v.L {
			add(s)
		}
	}
	if v.Kind == api.Pairs {
		for _, x := range v.P {
			add(x.Key)
			add(x.Val)
		}
	}
	if len(p.texts) == 0 {
		p.kind = 0
	}
	return p
}

// ahead holds pictures against each other: the less kind, then the first text that is another one, then the fewer texts.
func ahead(a, b picture) int {
	if a.kind != b.kind {
		return sign(a.kind - b.kind)
	}
	for i := range a.texts {
		if i == len(b.texts) {
			return 1
		}
		if c := bytes.Compare(a.texts[i], b.texts[i]); c != 0 {
			return c
		}
	}
	return sign(len(a.texts) - len(b.texts))
}

func sign(n int) int {
	if n < 0 {
		return -1
	}
	if n > 0 {
		return 1
	}
	return 0
}

// text, list and pairs are values, by short words.
func text(s string) api.Value { return api.Value{Kind: api.Text, S: s} }

func list(l ...string) api.Value { return api.Value{Kind: api.List, L: l} }

func pairs(l ...api.Pair) api.Value { return api.Value{Kind: api.Pairs, P: l} }

// samples are values of all kinds, and of none, with every sort of what their kind says and what it doesn't.
func samples() []api.Value {
	lists := [][]string{nil, {}, {""}, {"a"}, {"b"}, {"\xFF"}, {"a", ""}, {"", "a"}, {"a", "\xC3"}, {"a", "b"}, {"\u00e9", "b", "a"}}
	pairs := [][]api.Pair{nil, {}, {{}}, {{Key: "a"}}, {{Val: "a"}}, {{Key: "a", Val: "b"}}, {{Key: "\xC3", Val: "a"}}, {{Key: "a", Val: "\xFF"}}, {{Key: "a"}, {}}, {{Key: "a", Val: "b"}, {Key: "a", Val: "b"}}}
	var l []api.Value
	for _, kind := range []int{math.MinInt, -1, 0, 1, 2, 3, 4, math.MaxInt} {
		for _, s := range []string{"", "a", "ab", "\u00e9", "\xC3", "b"} {
			for i := range lists {
				l = append(l, api.Value{Kind: kind, S: s, L: lists[i], P: pairs[i%len(pairs)]})
				l = append(l, api.Value{Kind: kind, S: s, L: lists[len(lists)-1-i], P: pairs[i%len(pairs)]})
			}
		}
	}
	return l
}

// allTexts tells every list of at most n of the texts.
func allTexts(texts []string, n int, tell func(l []string)) {
	tell(nil)
	if n == 0 {
		return
	}
	for _, s := range texts {
		allTexts(texts, n-1, func(l []string) { tell(append([]string{s}, l...)) })
	}
}

// clone is a value like another one that shares nothing with it.
func clone(v api.Value) api.Value {
	v.L, v.P = slices.Clone(v.L), slices.Clone(v.P)
	return v
}

// P8.1: Defined, Texts and Canon by hand.
func TestDefinedTextsCanon(t *testing.T) {
	ab := []api.Pair{{Key: "a", Val: "1"}, {Key: "b", Val: "2"}}
	for _, x := range []struct {
		v     api.Value
		texts []string
		canon api.Value
	}{
		{text(""), []string{""}, text("")},
		{text("a"), []string{"a"}, text("a")},
		{text("\xFF"), []string{"\xFF"}, text("\xFF")},
		{api.Value{Kind: api.Text, L: []string{"a"}, P: ab}, []string{""}, text("")},
		{api.Value{Kind: api.Text, S: "x", L: []string{"a"}, P: ab}, []string{"x"}, text("x")},
		{list("a"), []string{"a"}, list("a")},
		{list(""), []string{""}, list("")},
		{list("b", "", "a", "a"), []string{"b", "", "a", "a"}, list("b", "", "a", "a")},
		{api.Value{Kind: api.List, S: "x", L: []string{"a"}, P: ab}, []string{"a"}, list("a")},
		{pairs(api.Pair{}), []string{"", ""}, pairs(api.Pair{})},
		{pairs(ab...), []string{"a", "1", "b", "2"}, pairs(ab...)},
		{pairs(ab[1], ab[0], ab[1]), []string{"b", "2", "a", "1", "b", "2"}, pairs(ab[1], ab[0], ab[1])},
		{api.Value{Kind: api.Pairs, S: "x", L: []string{"a"}, P: ab}, []string{"a", "1", "b", "2"}, pairs(ab...)},
		{api.Value{}, nil, api.Value{}},
		{api.Value{S: "a"}, nil, api.Value{}},
		{api.Value{S: "a", L: []string{"a"}, P: ab}, nil, api.Value{}},
		{list(), nil, api.Value{}},
		{api.Value{Kind: api.List, L: []string{}}, nil, api.Value{}},
		{api.Value{Kind: api.List, S: "a", P: ab}, nil, api.Value{}},
		{pairs(), nil, api.Value{}},
		{api.Value{Kind: api.Pairs, P: []api.Pair{}}, nil, api.Value{}},
		{api.Value{Kind: api.Pairs, S: "a", L: []string{"a", "b"}}, nil, api.Value{}},
		{api.Value{Kind: 4, S: "a", L: []string{"a"}, P: ab}, nil, api.Value{}},
		{api.Value{Kind: -1, S: "a", L: []string{"a"}, P: ab}, nil, api.Value{}},
		{api.Value{Kind: math.MaxInt, S: "a", L: []string{"a"}, P: ab}, nil, api.Value{}},
	} {
		if l := value.Texts(x.v); !slices.Equal(l, x.texts) {
			t.Errorf("Texts(%+v) = %q", x.v, l)
		}
		if defined := value.Defined(x.v); defined != (x.texts != nil) {
			t.Errorf("Defined(%+v) = %v", x.v, defined)
		}
		if c := value.Canon(x.v); !reflect.DeepEqual(c, x.canon) {
			t.Errorf("Canon(%+v) = %+v", x.v, c)
		}
	}
}

// P8.1, P8.2: all that is told of one value, by the chapter's words.
func TestSamples(t *testing.T) {
	for _, v := range samples() {
		was, p := clone(v), pictured(v)
		var texts []string
		valid := true
		for _, b := range p.texts {
			texts = append(texts, string(b))
			valid = valid && utf8.Valid(b)
		}
		if l := value.Texts(v); !slices.Equal(l, texts) {
			t.Fatalf("Texts(%+v) = %q, not %q", v, l, texts)
		}
		if value.Defined(v) != (p.kind != 0) || value.Valid(v) != valid {
			t.Fatalf("%+v: defined %v, valid %v", v, value.Defined(v), value.Valid(v))
		}
		c := value.Canon(v)
		want := api.Value{Kind: p.kind}
		switch p.kind {
		case api.Text:
			want.S = v.S
		case api.List:
			want.L = v.L
		case api.Pairs:
			want.P = v.P
		}
		if !reflect.DeepEqual(c, want) || !reflect.DeepEqual(value.Canon(c), want) {
			t.Fatalf("Canon(%+v) = %+v, and of that %+v", v, c, value.Canon(c))
		}
		if !reflect.DeepEqual(v, was) {
			t.Fatalf("%+v was changed to %+v", was, v)
		}
	}
}

// P8.2: Valid by hand: each of the texts counts, but only of those that the kind says.
func TestValid(t *testing.T) {
	for _, x := range []struct {
		v  api.Value
		ok bool
	}{
		{api.Value{}, true},
		{text(""), true},
		{text("a\u00e9\uFFFD"), true},
		{text("\xFF"), false},
		{text("a\xC3"), false},
		{text("\xED\xA0\x80"), false},
		{list(), true},
		{list("a", "\u00e9"), true},
		{list("\xFF", "a"), false},
		{list("a", "\xFF"), false},
		{list("a", "\xC3", "\xA9"), false},
		{pairs(api.Pair{Key: "a", Val: "\u00e9"}), true},
		{pairs(api.Pair{Key: "\xFF", Val: "a"}), false},
		{pairs(api.Pair{Key: "a", Val: "\xFF"}), false},
		{pairs(api.Pair{Key: "a"}, api.Pair{Key: "b", Val: "\xFF"}), false},
		{pairs(api.Pair{Key: "\xC3", Val: "\xA9"}), false},
		{api.Value{Kind: api.Text, L: []string{"\xFF"}, P: []api.Pair{{Key: "\xFF"}}}, true},
		{api.Value{Kind: api.List, S: "\xFF", L: []string{"a"}, P: []api.Pair{{Val: "\xFF"}}}, true},
		{api.Value{Kind: api.Pairs, S: "\xFF", L: []string{"\xFF"}, P: []api.Pair{{Key: "a"}}}, true},
		{api.Value{Kind: 4, S: "\xFF", L: []string{"\xFF"}, P: []api.Pair{{Key: "\xFF"}}}, true},
		{api.Value{S: "\xFF"}, true},
	} {
		if ok := value.Valid(x.v); ok != x.ok {
			t.Errorf("Valid(%+v) = %v", x.v, ok)
		}
	}
}

// rising are values of which each is ahead of all that stand behind it.
func rising() []api.Value {
	p := func(key, val string) api.Pair { return api.Pair{Key: key, Val: val} }
	return []api.Value{
		{},
		text(""), text("\x00"), text("A"), text("a"), text("a\x00"), text("aa"), text("ab"), text("b"), text("\x7F"), text("\u00e9"), text("\uFFFD"), text("\xF0\x9F\x90\xA6"), text("\xFF"),
		list(""), list("", ""), list("", "b"), list("a"), list("a", ""), list("a", "", ""), list("a", "a"), list("a", "b"), list("a", "b", "a"), list("a", "c"), list("ab"), list("b"), list("\xFF"),
		pairs(p("", "")), pairs(p("", ""), p("", "")), pairs(p("", "b")), pairs(p("a", "")), pairs(p("a", "1")), pairs(p("a", "1"), p("a", "0")), pairs(p("a", "1"), p("b", "")), pairs(p("a", "2")), pairs(p("aa", "")), pairs(p("b", "")),
	}
}

// P8.2: Compare and Same by hand.
func TestCompare(t *testing.T) {
	l := rising()
	for i, a := range l {
		for j, b := range l {
			if c := value.Compare(a, b); c != sign(i-j) {
				t.Errorf("Compare(%+v, %+v) = %d", a, b, c)
			}
			if same := value.Same(a, b); same != (i == j) {
				t.Errorf("Same(%+v, %+v) = %v", a, b, same)
			}
		}
	}
}

// P8.2: what isn't defined is all the same, whatever its kind, and ahead of all else; what a kind doesn't say plays no part.
func TestCompareNotCanonical(t *testing.T) {
	more := api.Value{S: "x", L: []string{"y"}, P: []api.Pair{{Key: "z"}}}
	none := []api.Value{{}, list(), pairs(), {Kind: 4}, {Kind: -1}, {Kind: math.MaxInt, S: "a"}, {Kind: math.MinInt, L: []string{"a"}}, {Kind: api.List, S: "a"}, {Kind: api.Pairs, L: []string{"a"}}, more}
	for _, a := range none {
		for _, b := range none {
			if value.Compare(a, b) != 0 || !value.Same(a, b) {
				t.Errorf("Compare(%+v, %+v) = %d", a, b, value.Compare(a, b))
			}
		}
		for _, b := range rising()[1:] {
			if value.Compare(a, b) != -1 || value.Compare(b, a) != 1 || value.Same(a, b) {
				t.Errorf("Compare(%+v, %+v) = %d", a, b, value.Compare(a, b))
			}
		}
	}
	for _, x := range []api.Value{
		{Kind: api.Text, S: "a", L: more.L, P: more.P},
		{Kind: api.List, S: more.S, L: []string{"a"}, P: more.P},
		{Kind: api.Pairs, S: more.S, L: more.L, P: []api.Pair{{Key: "a"}}},
	} {
		if !value.Same(x, value.Canon(x)) || value.Compare(value.Canon(x), x) != 0 {
			t.Errorf("%+v isn't the same as %+v", x, value.Canon(x))
		}
	}
}

// P8.2, P8.4: Compare of all two samples, by the chapter's words; so it is an order, and the same are those whose kinds and texts are.
func TestCompareMany(t *testing.T) {
	l := samples()
	var p []picture
	for _, v := range l {
		p = append(p, pictured(v))
	}
	for i, a := range l {
		for j, b := range l {
			want := ahead(p[i], p[j])
			if c, same := value.Compare(a, b), value.Same(a, b); c != want || same != (want == 0) {
				t.Fatalf("Compare(%+v, %+v) = %d, not %d; the same: %v", a, b, c, want, same)
			}
			if (want == 0) != reflect.DeepEqual(value.Canon(a), value.Canon(b)) {
				t.Fatalf("%+v and %+v: the canonical ones", a, b)
			}
		}
	}
}

// P8.4: order is an order: of each three values, once the first is not behind the second, nor that behind the third, the first isn't behind the third; and what is turned round is told so.
func TestOrder(t *testing.T) {
	l := slices.Concat(rising(), []api.Value{list(), {Kind: 4, S: "a"}, {Kind: api.Text, S: "a", L: []string{"b"}}})
	for _, a := range l {
		for _, b := range l {
			if value.Compare(a, b) != -value.Compare(b, a) {
				t.Fatalf("%+v and %+v", a, b)
			}
			for _, c := range l {
				if value.Compare(a, b) <= 0 && value.Compare(b, c) <= 0 && value.Compare(a, c) > 0 {
					t.Fatalf("%+v, %+v and %+v", a, b, c)
				}
			}
		}
	}
	sorted := samples()
	slices.SortFunc(sorted, value.Compare)
	for i := range sorted[1:] {
		if ahead(pictured(sorted[i]), pictured(sorted[i+1])) > 0 {
			t.Fatalf("%+v is sorted ahead of %+v", sorted[i], sorted[i+1])
		}
	}
}

// P8.3: Of by hand.
func TestOf(t *testing.T) {
	for _, x := range []struct {
		kind  int
		texts []string
		v     api.Value
		ok    bool
	}{
		{api.Text, []string{""}, text(""), true},
		{api.Text, []string{"a"}, text("a"), true},
		{api.Text, []string{"\xFF"}, text("\xFF"), true},
		{api.Text, nil, api.Value{}, false},
		{api.Text, []string{}, api.Value{}, false},
		{api.Text, []string{"a", "b"}, api.Value{}, false},
		{api.Text, []string{"a", ""}, api.Value{}, false},
		{api.List, []string{""}, list(""), true},
		{api.List, []string{"b", "a", "", "b"}, list("b", "a", "", "b"), true},
		{api.List, nil, api.Value{}, false},
		{api.List, []string{}, api.Value{}, false},
		{api.Pairs, []string{"a", "1"}, pairs(api.Pair{Key: "a", Val: "1"}), true},
		{api.Pairs, []string{"b", "2", "", ""}, pairs(api.Pair{Key: "b", Val: "2"}, api.Pair{}), true},
		{api.Pairs, nil, api.Value{}, false},
		{api.Pairs, []string{}, api.Value{}, false},
		{api.Pairs, []string{"a"}, api.Value{}, false},
		{api.Pairs, []string{"a", "1", "b"}, api.Value{}, false},
		{0, nil, api.Value{}, false},
		{0, []string{"a"}, api.Value{}, false},
		{-1, []string{"a"}, api.Value{}, false},
		{4, []string{"a", "b"}, api.Value{}, false},
		{math.MaxInt, []string{"a"}, api.Value{}, false},
		{math.MinInt, []string{"a", "b"}, api.Value{}, false},
	} {
		if v, ok := value.Of(x.kind, x.texts); ok != x.ok || !reflect.DeepEqual(v, x.v) {
			t.Errorf("Of(%d, %q) = %+v, %v", x.kind, x.texts, v, ok)
		}
	}
}

// P8.3, P8.4: Of all short lists of texts: what is told is defined, canonical, of that kind, and has these texts; there is one just if the kind has values of so many.
func TestOfMany(t *testing.T) {
	for kind := -2; kind <= 6; kind++ {
		allTexts([]string{"", "a", "\xFF", "\u00e9b"}, 5, func(l []string) {
			was, n := slices.Clone(l), len(l)
			want := kind == api.Text && n == 1 || kind == api.List && n >= 1 || kind == api.Pairs && n >= 2 && n%2 == 0
			v, ok := value.Of(kind, l)
			if ok != want {
				t.Fatalf("Of(%d, %q) = %+v, %v", kind, l, v, ok)
			}
			if !ok && !reflect.DeepEqual(v, api.Value{}) {
				t.Fatalf("Of(%d, %q) tells %+v, and that there is none", kind, l, v)
			}
			if ok && (v.Kind != kind || !value.Defined(v) || !slices.Equal(value.Texts(v), l) || !reflect.DeepEqual(v, value.Canon(v))) {
				t.Fatalf("Of(%d, %q) = %+v", kind, l, v)
			}
			if !slices.Equal(l, was) {
				t.Fatalf("%q was changed to %q", was, l)
			}
		})
	}
}

// P8.4: a value is what its kind and its texts are.
func TestKindAndTexts(t *testing.T) {
	for _, v := range samples() {
		c, ok := value.Of(v.Kind, value.Texts(v))
		if ok != value.Defined(v) || !reflect.DeepEqual(c, value.Canon(v)) || !value.Same(c, v) {
			t.Fatalf("%+v is told back as %+v, %v", v, c, ok)
		}
	}
}

// R3: what is told is the caller's own: neither what was handed in nor a later answer is changed with it.
func TestOwn(t *testing.T) {
	texts := []string{"a", "b"}
	for _, kind := range []int{api.List, api.Pairs} {
		v, _ := value.Of(kind, texts)
		was := clone(v)
		c, l := value.Canon(v), value.Texts(v)
		l[0] = "x"
		if kind == api.List {
			c.L[1] = "y"
		} else {
			c.P[0].Val = "y"
		}
		if !reflect.DeepEqual(v, was) || !slices.Equal(value.Texts(v), texts) {
			t.Errorf("%+v shares something with what is told of it", v)
		}
		handed := slices.Clone(texts)
		v, _ = value.Of(kind, handed)
		handed[0], handed[1] = "x", "y"
		if !reflect.DeepEqual(v, was) {
			t.Errorf("%+v shares its texts with what was handed in", v)
		}
		if kind == api.List {
			v.L[0] = "z"
		}
		if handed[0] != "x" {
			t.Errorf("%q shares its texts with a value", handed)
		}
	}
}

// P1: many texts end, soon.
func TestMany(t *testing.T) {
	const times = 200000
	var texts []string
	for i := range times {
		texts = append(texts, strconv.Itoa(i))
	}
	for _, kind := range []int{api.List, api.Pairs} {
		v, ok := value.Of(kind, texts)
		if !ok || !value.Valid(v) || !slices.Equal(value.Texts(v), texts) || !reflect.DeepEqual(value.Canon(v), v) {
			t.Fatalf("many texts of the kind %d", kind)
		}
		w, _ := value.Of(kind, texts[:times-2])
		if value.Compare(w, v) != -1 || value.Compare(v, w) != 1 || value.Compare(v, v) != 0 {
			t.Errorf("many texts of the kind %d, and fewer of them", kind)
		}
		last, _ := value.Of(kind, append(slices.Clone(texts[:times-1]), "\xFF"))
		if value.Compare(v, last) != -1 || value.Valid(last) {
			t.Errorf("many texts of the kind %d, and another last one", kind)
		}
	}
}
