package bind_test

import (
	"bytes"
	"math"
	"reflect"
	"slices"
	"strconv"
	"testing"

	"phalarope/api"
	"phalarope/bind"
	"phalarope/value"
)

// text and list are values, by short words.
func text(s string) api.Value { return api.Value{Kind: api.Text, S: s} }

func list(l ...string) api.Value { return api.Value{Kind: api.List, L: l} }

func pairs(l ...api.Pair) api.Value { return api.Value{Kind: api.Pairs, P: l} }

// on is a variable's value.
func on(name string, v api.Value) api.Bind { return api.Bind{Name: name, V: v} }

// told is the tests' own picture of what Get tells: the first of that name, by the chapter's words.
func told(a []api.Bind, name string) (api.Value, bool) {
	i := slices.IndexFunc(a, func(b api.Bind) bool { return b.Name == name })
	if i < 0 || !value.Defined(a[i].V) {
		return api.Value{}, false
	}
	return value.Canon(a[i].V), true
}

// canonical is the tests' own picture of Canon: each name that has a value, put in where no lesser one stands behind it.
func canonical(a []api.Bind) []api.Bind {
	var l []api.Bind
	for _, b := range a {
		v, ok := told(a, b.Name)
		i := 0
		for i < len(l) && bytes.Compare([]byte(l[i].Name), []byte(b.Name)) < 0 {
			i++
		}
		if ok && (i == len(l) || l[i].Name != b.Name) {
			l = slices.Insert(l, i, on(b.Name, v))
		}
	}
	return l
}

// without is a list of variables, but for those of one name.
func without(a []api.Bind, name string) []api.Bind {
	var l []api.Bind
	for _, b := range a {
		if b.Name != name {
			l = append(l, b)
		}
	}
	return l
}

// alike tells whether two lists are just the same, of which none and an empty one are.
func alike(a, b []api.Bind) bool {
	return len(a) == 0 && len(b) == 0 || reflect.DeepEqual(a, b)
}

// clone is a list like another one that shares nothing with it.
func clone(a []api.Bind) []api.Bind {
	l := slices.Clone(a)
	for i := range l {
		l[i].V.L, l[i].V.P = slices.Clone(l[i].V.L), slices.Clone(l[i].V.P)
	}
	return l
}

// allBinds tells every list of at most n of the variables.
func allBinds(of []api.Bind, n int, tell func(l []api.Bind)) {
	tell(nil)
	if n == 0 {
		return
	}
	for _, b := range of {
		allBinds(of, n-1, func(l []api.Bind) { tell(append([]api.Bind{b}, l...)) })
	}
}

// names and values are those of which the lists of many tests are made: the values are defined or not, and canonical or not.
func names() []string { return []string{"a", "b", "", "\xFF"} }

func values() []api.Value {
	return []api.Value{{}, text(""), {Kind: api.Text, S: "x", L: []string{"y"}}, list(), list("", "x"), {Kind: api.Pairs, L: []string{"x"}}, {Kind: api.Pairs, S: "x", P: []api.Pair{{Key: "k"}}}, {Kind: 4, S: "x"}}
}

// variables are all names with all values.
func variables() []api.Bind {
	var l []api.Bind
	for _, name := range names() {
		for _, v := range values() {
			l = append(l, on(name, v))
		}
	}
	return l
}

// P9.1: Get by hand: the first of a name, and none behind it, even if that one isn't defined.
func TestGet(t *testing.T) {
	kv := []api.Pair{{Key: "k", Val: "v"}}
	for _, x := range []struct {
		a    []api.Bind
		name string
		v    api.Value
		ok   bool
	}{
		{nil, "a", api.Value{}, false},
		{[]api.Bind{}, "", api.Value{}, false},
		{[]api.Bind{on("a", text("1"))}, "a", text("1"), true},
		{[]api.Bind{on("a", text(""))}, "a", text(""), true},
		{[]api.Bind{on("a", text("\xFF"))}, "a", text("\xFF"), true},
		{[]api.Bind{on("a", text("1"))}, "b", api.Value{}, false},
		{[]api.Bind{on("a", text("1"))}, "A", api.Value{}, false},
		{[]api.Bind{on("a", text("1"))}, "", api.Value{}, false},
		{[]api.Bind{on("a", text("1"))}, "aa", api.Value{}, false},
		{[]api.Bind{on("aa", text("1"))}, "a", api.Value{}, false},
		{[]api.Bind{on("", text("1"))}, "", text("1"), true},
		{[]api.Bind{on("\xFF", text("1"))}, "\xFF", text("1"), true},
		{[]api.Bind{on("\xFF", text("1"))}, "\uFFFD", api.Value{}, false},
		{[]api.Bind{on("%4a", text("1"))}, "%4A", api.Value{}, false},
		{[]api.Bind{on("b", text("1")), on("a", text("2")), on("b", text("3"))}, "b", text("1"), true},
		{[]api.Bind{on("b", text("1")), on("a", text("2")), on("b", text("3"))}, "a", text("2"), true},
		{[]api.Bind{on("b", api.Value{}), on("b", text("3"))}, "b", api.Value{}, false},
		{[]api.Bind{on("b", list()), on("b", text("3"))}, "b", api.Value{}, false},
		{[]api.Bind{on("b", pairs()), on("b", text("3"))}, "b", api.Value{}, false},
		{[]api.Bind{on("b", api.Value{Kind: -1, S: "x"}), on("b", text("3"))}, "b", api.Value{}, false},
		{[]api.Bind{on("b", api.Value{Kind: math.MaxInt, L: []string{"x"}})}, "b", api.Value{}, false},
		{[]api.Bind{on("b", text("1")), on("b", api.Value{})}, "b", text("1"), true},
		{[]api.Bind{on("a", list("x", ""))}, "a", list("x", ""), true},
		{[]api.Bind{on("a", pairs(kv...))}, "a", pairs(kv...), true},
		{[]api.Bind{on("a", api.Value{Kind: api.Text, S: "1", L: []string{"x"}, P: kv})}, "a", text("1"), true},
		{[]api.Bind{on("a", api.Value{Kind: api.List, S: "1", L: []string{"x"}, P: kv})}, "a", list("x"), true},
		{[]api.Bind{on("a", api.Value{Kind: api.Pairs, S: "1", L: []string{"x"}, P: kv})}, "a", pairs(kv...), true},
	} {
		if v, ok := bind.Get(x.a, x.name); ok != x.ok || !reflect.DeepEqual(v, x.v) {
			t.Errorf("Get(%+v, %q) = %+v, %v", x.a, x.name, v, ok)
		}
	}
}

// P9.1, P9.2: Names and Canon by hand.
func TestNamesCanon(t *testing.T) {
	for _, x := range []struct{ a, canon []api.Bind }{
		{nil, nil},
		{[]api.Bind{}, nil},
		{[]api.Bind{on("a", api.Value{})}, nil},
		{[]api.Bind{on("a", list()), on("b", pairs()), on("c", api.Value{Kind: 4, S: "x"})}, nil},
		{[]api.Bind{on("a", text("1"))}, []api.Bind{on("a", text("1"))}},
		{[]api.Bind{on("", text(""))}, []api.Bind{on("", text(""))}},
		{[]api.Bind{on("b", text("1")), on("a", text("2")), on("b", text("3"))}, []api.Bind{on("a", text("2")), on("b", text("1"))}},
		{[]api.Bind{on("b", api.Value{}), on("a", text("2")), on("b", text("3"))}, []api.Bind{on("a", text("2"))}},
		{[]api.Bind{on("b", text("1")), on("a", text("2")), on("b", api.Value{})}, []api.Bind{on("a", text("2")), on("b", text("1"))}},
		{[]api.Bind{on("b", text("1")), on("b", api.Value{}), on("b", text("3"))}, []api.Bind{on("b", text("1"))}},
		{[]api.Bind{on("b", api.Value{}), on("b", text("2")), on("b", api.Value{})}, nil},
		{[]api.Bind{on("b", list()), on("b", list("x"))}, nil},
		{[]api.Bind{on("a", api.Value{Kind: api.List, S: "1", L: []string{"b", "a", "b"}})}, []api.Bind{on("a", list("b", "a", "b"))}},
		{[]api.Bind{on("a", api.Value{Kind: api.Text, L: []string{"b"}})}, []api.Bind{on("a", text(""))}},
		{
			[]api.Bind{on("a.b", text("1")), on("\xFF", text("2")), on("", text("3")), on("\u00e9", text("4")), on("b", text("5")), on("a", text("6")), on("Z", text("7")), on("aa", text("8")), on("%41", text("9")), on("10", text("10")), on("9", text("11"))},
			[]api.Bind{on("", text("3")), on("%41", text("9")), on("10", text("10")), on("9", text("11")), on("Z", text("7")), on("a", text("6")), on("a.b", text("1")), on("aa", text("8")), on("b", text("5")), on("\u00e9", text("4")), on("\xFF", text("2"))},
		},
	} {
		if c := bind.Canon(x.a); !alike(c, x.canon) {
			t.Errorf("Canon(%+v) = %+v", x.a, c)
		}
		var names []string
		for _, b := range x.canon {
			names = append(names, b.Name)
		}
		if l := bind.Names(x.a); !slices.Equal(l, names) {
			t.Errorf("Names(%+v) = %q", x.a, l)
		}
	}
}

// P9.2: Set by hand.
func TestSet(t *testing.T) {
	bab := []api.Bind{on("b", text("1")), on("a", text("2")), on("b", text("3"))}
	for _, x := range []struct {
		a     []api.Bind
		name  string
		v     api.Value
		canon []api.Bind
	}{
		{nil, "a", text("1"), []api.Bind{on("a", text("1"))}},
		{nil, "", text(""), []api.Bind{on("", text(""))}},
		{nil, "a", api.Value{}, nil},
		{[]api.Bind{}, "a", list(), nil},
		{bab, "a", text("x"), []api.Bind{on("a", text("x")), on("b", text("1"))}},
		{bab, "b", text("x"), []api.Bind{on("a", text("2")), on("b", text("x"))}},
		{bab, "c", text("x"), []api.Bind{on("a", text("2")), on("b", text("1")), on("c", text("x"))}},
		{bab, "A", text("x"), []api.Bind{on("A", text("x")), on("a", text("2")), on("b", text("1"))}},
		{bab, "a", api.Value{}, []api.Bind{on("b", text("1"))}},
		{bab, "b", api.Value{}, []api.Bind{on("a", text("2"))}},
		{bab, "b", list(), []api.Bind{on("a", text("2"))}},
		{bab, "b", pairs(), []api.Bind{on("a", text("2"))}},
		{bab, "b", api.Value{Kind: 4, S: "x"}, []api.Bind{on("a", text("2"))}},
		{bab, "c", api.Value{}, []api.Bind{on("a", text("2")), on("b", text("1"))}},
		{bab, "a", api.Value{Kind: api.List, S: "x", L: []string{"y"}}, []api.Bind{on("a", list("y")), on("b", text("1"))}},
		{[]api.Bind{on("b", api.Value{}), on("b", text("3"))}, "b", text("x"), []api.Bind{on("b", text("x"))}},
		{[]api.Bind{on("b", api.Value{}), on("b", text("3"))}, "a", text("x"), []api.Bind{on("a", text("x"))}},
		{[]api.Bind{on("b", api.Value{}), on("b", text("3"))}, "b", api.Value{}, nil},
	} {
		if c := bind.Set(x.a, x.name, x.v); !alike(c, x.canon) {
			t.Errorf("Set(%+v, %q, %+v) = %+v", x.a, x.name, x.v, c)
		}
	}
}

// P9.2: Same by hand.
func TestSame(t *testing.T) {
	ab := []api.Bind{on("a", text("2")), on("b", text("1"))}
	for _, x := range []struct {
		a, b []api.Bind
		same bool
	}{
		{nil, nil, true},
		{nil, []api.Bind{}, true},
		{nil, []api.Bind{on("a", api.Value{})}, true},
		{[]api.Bind{on("a", list())}, []api.Bind{on("b", api.Value{Kind: 4})}, true},
		{nil, []api.Bind{on("a", text(""))}, false},
		{nil, []api.Bind{on("", text(""))}, false},
		{ab, []api.Bind{on("b", text("1")), on("a", text("2")), on("b", text("3"))}, true},
		{ab, []api.Bind{on("b", text("3")), on("a", text("2")), on("b", text("1"))}, false},
		{ab, []api.Bind{on("c", api.Value{}), on("b", text("1")), on("a", text("2"))}, true},
		{ab, []api.Bind{on("b", api.Value{}), on("b", text("1")), on("a", text("2"))}, false},
		{ab, ab[:1], false},
		{ab, ab[1:], false},
		{ab, append(slices.Clone(ab), on("c", text(""))), false},
		{ab, []api.Bind{on("a", text("1")), on("b", text("2"))}, false},
		{ab, []api.Bind{on("a", text("2")), on("c", text("1"))}, false},
		{ab, []api.Bind{on("a", text("2")), on("B", text("1"))}, false},
		{ab, []api.Bind{on("a", text("2")), on("b", list("1"))}, false},
		{ab, []api.Bind{on("a", api.Value{Kind: api.Text, S: "2", L: []string{"x"}}), on("b", text("1"))}, true},
		{[]api.Bind{on("a", list("1", "2"))}, []api.Bind{on("a", list("2", "1"))}, false},
		{[]api.Bind{on("a", list("k", "v"))}, []api.Bind{on("a", pairs(api.Pair{Key: "k", Val: "v"}))}, false},
	} {
		if bind.Same(x.a, x.b) != x.same || bind.Same(x.b, x.a) != x.same {
			t.Errorf("Same(%+v, %+v) = %v, and turned round %v", x.a, x.b, bind.Same(x.a, x.b), bind.Same(x.b, x.a))
		}
	}
}

// P9.1, P9.2, P9.3: Get, Names and Canon of all short lists of variables, by the chapter's words; Canon is canonical already, and is the same.
func TestAll(t *testing.T) {
	allBinds(variables(), 3, func(a []api.Bind) {
		was, want := clone(a), canonical(a)
		for _, name := range append(names(), "c") {
			v, ok := told(a, name)
			if w, found := bind.Get(a, name); found != ok || !reflect.DeepEqual(w, v) {
				t.Fatalf("Get(%+v, %q) = %+v, %v", a, name, w, found)
			}
		}
		c := bind.Canon(a)
		if !alike(c, want) || !alike(bind.Canon(c), want) || !bind.Same(a, c) {
			t.Fatalf("Canon(%+v) = %+v, and of that %+v", a, c, bind.Canon(c))
		}
		l := bind.Names(a)
		if len(l) != len(want) {
			t.Fatalf("Names(%+v) = %q", a, l)
		}
		for i, name := range l {
			if want[i].Name != name {
				t.Fatalf("Names(%+v) = %q", a, l)
			}
		}
		if !alike(a, was) {
			t.Fatalf("%+v was changed to %+v", was, a)
		}
	})
}

// P9.2, P9.3: Set of all names and values in all short lists: what is set is told, all else is told as it was, and the answer is canonical.
func TestSetAll(t *testing.T) {
	allBinds(variables(), 2, func(a []api.Bind) {
		was := clone(a)
		for _, b := range append(variables(), on("c", text("x")), on("c", api.Value{})) {
			set := bind.Set(a, b.Name, b.V)
			if want := canonical(append(without(a, b.Name), b)); !alike(set, want) || !alike(bind.Canon(set), set) {
				t.Fatalf("Set(%+v, %q, %+v) = %+v, not %+v", a, b.Name, b.V, set, want)
			}
			v, ok := bind.Get(set, b.Name)
			if ok != value.Defined(b.V) || !reflect.DeepEqual(v, value.Canon(b.V)) {
				t.Fatalf("Set(%+v, %q, %+v) tells %+v, %v", a, b.Name, b.V, v, ok)
			}
			for _, name := range without(variables(), b.Name) {
				v, ok := bind.Get(a, name.Name)
				if w, found := bind.Get(set, name.Name); found != ok || !reflect.DeepEqual(w, v) {
					t.Fatalf("Set(%+v, %q, %+v) changes %q", a, b.Name, b.V, name.Name)
				}
			}
		}
		if !alike(a, was) {
			t.Fatalf("%+v was changed to %+v", was, a)
		}
	})
}

// P9.2: Same of all two short lists: just if all names tell the same.
func TestSameAll(t *testing.T) {
	var l [][]api.Bind
	of := []api.Bind{on("a", api.Value{}), on("a", text("x")), on("a", api.Value{Kind: api.Text, S: "x", L: []string{"y"}}), on("a", list("x")), on("b", list()), on("b", text("x")), on("", text("x"))}
	allBinds(of, 3, func(a []api.Bind) { l = append(l, a) })
	for _, a := range l {
		for _, b := range l {
			want := alike(canonical(a), canonical(b))
			if same := bind.Same(a, b); same != want {
				t.Fatalf("Same(%+v, %+v) = %v", a, b, same)
			}
		}
	}
}

// R3: what is told is the caller's own: neither what was handed in nor a later answer is changed with it; and what was handed in may be changed behind the answer.
func TestOwn(t *testing.T) {
	a := []api.Bind{on("b", list("x", "y")), on("a", pairs(api.Pair{Key: "k", Val: "v"})), on("c", text("z"))}
	was, want := clone(a), canonical(a)
	v := list("p", "q")
	c, set, names := bind.Canon(a), bind.Set(a, "d", v), bind.Names(a)
	got, _ := bind.Get(a, "b")
	set[1].V.L[0], set[3].V.L[0], c[0].V.P[0].Key, c[1].V.L[1], c[2].Name, names[0], got.L[0] = "1", "2", "3", "4", "5", "6", "7"
	if !alike(a, was) || !slices.Equal(v.L, []string{"p", "q"}) || !alike(bind.Canon(a), want) {
		t.Errorf("%+v or %+v shares something with what is told of it", a, v)
	}
	c, set = bind.Canon(a), bind.Set(a, "d", v)
	got, _ = bind.Get(a, "b")
	a[0].V.L[0], a[1].V.P[0].Val, a[2].Name, v.L[1] = "1", "2", "3", "4"
	if !alike(c, want) || !alike(set, append(clone(want), on("d", list("p", "q")))) || !slices.Equal(got.L, []string{"x", "y"}) {
		t.Errorf("%+v, %+v or %+v shares something with what was handed in", c, set, got)
	}
	shared := []string{"s"}
	c = bind.Canon([]api.Bind{on("a", list(shared...)), on("b", list(shared...))})
	c[0].V.L[0] = "1"
	if c[1].V.L[0] != "s" || shared[0] != "s" {
		t.Errorf("%+v: the values share a list", c)
	}
	room := make([]api.Bind, 1, 8)
	room[0] = on("a", text("1"))
	bind.Set(room, "b", text("2"))
	if behind := room[:2][1]; !reflect.DeepEqual(behind, api.Bind{}) {
		t.Errorf("%+v stands behind what was handed in", behind)
	}
}

// P1: many variables end, soon, with many names or with one.
func TestMany(t *testing.T) {
	const times = 100000
	var a, one, gone []api.Bind
	for i := range times {
		name := strconv.Itoa(times + (i*7919)%times)
		a = append(a, on(name, text(name)))
		gone = append(gone, on(name, api.Value{}))
		one = append(one, on("a", text(strconv.Itoa(i))))
	}
	l := bind.Names(append(a, one...))
	if len(l) != times+1 || !slices.IsSorted(l) || l[0] != strconv.Itoa(times) || l[times] != "a" {
		t.Errorf("the names of many: %d", len(l))
	}
	c := bind.Canon(a)
	if len(c) != times || c[times-1].V.S != strconv.Itoa(2*times-1) || !bind.Same(a, c) || bind.Same(a, c[1:]) {
		t.Errorf("Canon of many: %d", len(c))
	}
	if set := bind.Set(one, "a", text("x")); !alike(set, []api.Bind{on("a", text("x"))}) {
		t.Errorf("Set of one that stands often: %+v", set)
	}
	if v, ok := bind.Get(one, "a"); !ok || v.S != "0" {
		t.Errorf("Get of one that stands often: %+v", v)
	}
	if c := bind.Canon(append(gone, a...)); len(c) != 0 {
		t.Errorf("Canon of many that aren't defined: %d", len(c))
	}
}
