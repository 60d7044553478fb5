package spec_test

import (
	"math"
	"regexp"
	"slices"
	"strconv"
	"strings"
	"testing"

	"phalarope/api"
	"phalarope/spec"
)

// aVariable is what Put may tell, by a regular expression, apart from the way that the package takes: a name, and perhaps a prefix or a star.
var aVariable = regexp.MustCompile(`^((?:[A-Za-z0-9_]|%[0-9A-Fa-f]{2})(?:\.?(?:[A-Za-z0-9_]|%[0-9A-Fa-f]{2}))*)(?::([1-9][0-9]{0,3})|(\*))?$`)

// names are some that variables have, notNames some that they haven't.
var (
	names    = []string{"a", "_", "0", "a.b", "%41_", "%aF.%Fa", "ab.c1.%20", "12", "a.3"}
	notNames = []string{"", ".", "a.", ".a", "a..b", "%", "%4", "%4g", "a%4", "a-b", "a b", "a,b", "a*", "a:3", ":3", "*", "{a}", "\u00e9", "a\xFF", "a\x00"}
)

// want is what Take is to answer, by the chapter's words.
func want(s string) (api.Spec, int, api.Errno) {
	if m := aVariable.FindStringSubmatch(s); m != nil {
		max, _ := strconv.Atoi(m[2])
		return api.Spec{Name: m[1], Max: max, Star: m[3] != ""}, len(s), api.OK
	}
	n := len(s)
	for n > 0 && !beginsVariable(s[:n]) {
		n--
	}
	return api.Spec{}, n, api.ErrForm
}

// beginsVariable tells whether a text could still be a variable: with nothing behind it, with a character or a figure, or with what a triplet lacks.
func beginsVariable(s string) bool {
	return slices.ContainsFunc([]string{"", "a", "1", "41"}, func(more string) bool { return aVariable.MatchString(s + more) })
}

// allTexts tells every text of at most n of the bytes.
func allTexts(bytes string, n int, tell func(s string)) {
	tell("")
	if n == 0 {
		return
	}
	for i := range len(bytes) {
		allTexts(bytes, n-1, func(s string) { tell(bytes[i:i+1] + s) })
	}
}

// manyTexts tells texts that hold variables, what is nearly one, and all bytes, ahead of, in, and behind what else would be one.
func manyTexts(tell func(s string)) {
	allTexts("a.%4:*0", 6, tell)
	allTexts("0159:", 6, func(s string) { tell("a:" + s) })
	for a := range 256 {
		one := string([]byte{byte(a)})
		for _, x := range []string{"", "a", "a.", "%41", "%4", "a:", "a:1", "a:999", "a:1000", "a*"} {
			for _, y := range []string{"", "a", ":3", "*", "1", "0", ":", "41"} {
				tell(x + one + y)
			}
		}
	}
}

// check holds what Take answers against what it is to.
func check(t *testing.T, s string) {
	t.Helper()
	x, n, e := spec.Take(s)
	if wantX, wantN, wantE := want(s); x != wantX || n != wantN || e != wantE {
		t.Fatalf("Take(%q) = %+v, %d, %v, not %+v, %d, %v", s, x, n, e, wantX, wantN, wantE)
	}
}

// P6.1: May and Put by hand, with the least and the greatest prefix, and what lies beyond.
func TestMayAndPut(t *testing.T) {
	for _, x := range []struct {
		x   api.Spec
		may bool
		put string
	}{
		{api.Spec{Name: "a"}, true, "a"},
		{api.Spec{Name: "a", Max: 1}, true, "a:1"},
		{api.Spec{Name: "a", Max: 3}, true, "a:3"},
		{api.Spec{Name: "a", Max: 10}, true, "a:10"},
		{api.Spec{Name: "a", Max: 9999}, true, "a:9999"},
		{api.Spec{Name: "a", Star: true}, true, "a*"},
		{api.Spec{Name: "a.b", Star: true}, true, "a.b*"},
		{api.Spec{Name: "%c3%A9._1", Max: 200}, true, "%c3%A9._1:200"},
		{api.Spec{}, false, ""},
		{api.Spec{Star: true}, false, ""},
		{api.Spec{Max: 3}, false, ""},
		{api.Spec{Name: "a", Max: 10000}, false, ""},
		{api.Spec{Name: "a", Max: -1}, false, ""},
		{api.Spec{Name: "a", Max: math.MaxInt}, false, ""},
		{api.Spec{Name: "a", Max: math.MinInt}, false, ""},
		{api.Spec{Name: "a", Max: 1, Star: true}, false, ""},
		{api.Spec{Name: "a", Max: 9999, Star: true}, false, ""},
		{api.Spec{Name: "a", Max: -1, Star: true}, false, ""},
		{api.Spec{Name: "a", Max: 10000, Star: true}, false, ""},
	} {
		if may, put := spec.May(x.x), spec.Put(x.x); may != x.may || put != x.put {
			t.Errorf("%+v: May %v, Put %q", x.x, may, put)
		}
	}
}

// P6.1: what has no name may not be, and is put as nothing, whatever else it has.
func TestNotNames(t *testing.T) {
	for _, name := range notNames {
		for _, x := range []api.Spec{{Name: name}, {Name: name, Max: 3}, {Name: name, Star: true}, {Name: name, Max: 3, Star: true}} {
			if spec.May(x) || spec.Put(x) != "" {
				t.Errorf("%+v may be, and is put as %q", x, spec.Put(x))
			}
		}
	}
}

// P6.2: Take by hand.
func TestTake(t *testing.T) {
	for _, x := range []struct {
		s string
		x api.Spec
		n int
		e api.Errno
	}{
		{"a", api.Spec{Name: "a"}, 1, api.OK},
		{"a:3", api.Spec{Name: "a", Max: 3}, 3, api.OK},
		{"a:9999", api.Spec{Name: "a", Max: 9999}, 6, api.OK},
		{"a:1000", api.Spec{Name: "a", Max: 1000}, 6, api.OK},
		{"a*", api.Spec{Name: "a", Star: true}, 2, api.OK},
		{"%41.b*", api.Spec{Name: "%41.b", Star: true}, 6, api.OK},
		{"1:1", api.Spec{Name: "1", Max: 1}, 3, api.OK},
		{"", api.Spec{}, 0, api.ErrForm},
		{"a:0", api.Spec{}, 2, api.ErrForm},
		{"a:01", api.Spec{}, 2, api.ErrForm},
		{"a:00", api.Spec{}, 2, api.ErrForm},
		{"a:", api.Spec{}, 2, api.ErrForm},
		{"a::1", api.Spec{}, 2, api.ErrForm},
		{"a:-1", api.Spec{}, 2, api.ErrForm},
		{"a:+1", api.Spec{}, 2, api.ErrForm},
		{"a:*", api.Spec{}, 2, api.ErrForm},
		{"a:x", api.Spec{}, 2, api.ErrForm},
		{"a:1x", api.Spec{}, 3, api.ErrForm},
		{"a:3*", api.Spec{}, 3, api.ErrForm},
		{"a:10000", api.Spec{}, 6, api.ErrForm},
		{"a:12345", api.Spec{}, 6, api.ErrForm},
		{"a:99999", api.Spec{}, 6, api.ErrForm},
		{"a*:3", api.Spec{}, 2, api.ErrForm},
		{"a**", api.Spec{}, 2, api.ErrForm},
		{"a*b", api.Spec{}, 2, api.ErrForm},
		{"*", api.Spec{}, 0, api.ErrForm},
		{":3", api.Spec{}, 0, api.ErrForm},
		{".a", api.Spec{}, 0, api.ErrForm},
		{"a.", api.Spec{}, 2, api.ErrForm},
		{"a.:3", api.Spec{}, 2, api.ErrForm},
		{"a.*", api.Spec{}, 2, api.ErrForm},
		{"a..b", api.Spec{}, 2, api.ErrForm},
		{"%", api.Spec{}, 1, api.ErrForm},
		{"a%4", api.Spec{}, 3, api.ErrForm},
		{"a%4*", api.Spec{}, 3, api.ErrForm},
		{"a%4:1", api.Spec{}, 3, api.ErrForm},
		{"a,b", api.Spec{}, 1, api.ErrForm},
		{"a b", api.Spec{}, 1, api.ErrForm},
		{" a", api.Spec{}, 0, api.ErrForm},
		{"a\xFF", api.Spec{}, 1, api.ErrForm},
		{"a:\u0661", api.Spec{}, 2, api.ErrForm},
		{"a:1\x00", api.Spec{}, 3, api.ErrForm},
	} {
		if got, n, e := spec.Take(x.s); got != x.x || n != x.n || e != x.e {
			t.Errorf("Take(%q) = %+v, %d, %v", x.s, got, n, e)
		}
		check(t, x.s)
	}
}

// P6.2: Take of many texts, by the chapter's words.
func TestTakeMany(t *testing.T) {
	manyTexts(func(s string) { check(t, s) })
}

// P6.2, P6.3: what is taken may be, and is put as the text that it was taken from.
func TestTextsThereAndBack(t *testing.T) {
	manyTexts(func(s string) {
		if x, n, e := spec.Take(s); e == api.OK && (!spec.May(x) || spec.Put(x) != s || n != len(s)) {
			t.Fatalf("%q is taken as %+v, of %d bytes, and put as %q", s, x, n, spec.Put(x))
		}
	})
}

// P6.1, P6.3: with every prefix, and with a star, what may be is put and taken as it was; what may not be isn't put.
func TestVariablesThereAndBack(t *testing.T) {
	for _, name := range names {
		for max := -3; max <= api.MaxPrefix+3; max++ {
			for _, star := range []bool{false, true} {
				thereAndBack(t, api.Spec{Name: name, Max: max, Star: star})
			}
		}
	}
}

func thereAndBack(t *testing.T, x api.Spec) {
	t.Helper()
	may := x.Max == 0 || !x.Star && 0 < x.Max && x.Max <= 9999
	if spec.May(x) != may {
		t.Fatalf("%+v: May %v", x, !may)
	}
	s := spec.Put(x)
	if !may {
		if s != "" {
			t.Fatalf("%+v is put as %q", x, s)
		}
		return
	}
	if y, n, e := spec.Take(s); y != x || n != len(s) || e != api.OK {
		t.Fatalf("%+v is put as %q, and taken as %+v, %d, %v", x, s, y, n, e)
	}
}

// P6.2: long texts end, soon, and a number that is far too great doesn't wrap round to one that isn't.
func TestLong(t *testing.T) {
	const times = 200000
	long := strings.Repeat("a.%41", times)
	for _, more := range []string{"", "*", ":3", ":9999"} {
		if x, n, e := spec.Take(long + more); x.Name != long || n != len(long+more) || e != api.OK || spec.Put(x) != long+more {
			t.Errorf("a long name with %q: %d, %v", more, n, e)
		}
	}
	for figure, n := range map[string]int{"0": 2, "1": 6, "9": 6} {
		if x, got, e := spec.Take("a:" + strings.Repeat(figure, times)); x != (api.Spec{}) || got != n || e != api.ErrForm {
			t.Errorf("many figures %s: %+v, %d, %v", figure, x, got, e)
		}
	}
	// 2^64 + 3 would be 3, if it wrapped round.
	if _, n, e := spec.Take("a:18446744073709551619"); n != 6 || e != api.ErrForm {
		t.Errorf("2^64 + 3: %d, %v", n, e)
	}
}
