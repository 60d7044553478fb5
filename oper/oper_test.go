package oper_test

import (
	"slices"
	"strings"
	"testing"

	"phalarope/oper"
	"phalarope/tmpl"
)

// table is the chapter's own, word by word.
const table = `
| 0 (none) | nothing | , | no | nothing | no |
| + | nothing | , | no | nothing | yes |
| # | # | , | no | nothing | yes |
| . | . | . | no | nothing | no |
| / | / | / | no | nothing | no |
| ; | ; | ; | yes | nothing | no |
| ? | ? | & | yes | = | no |
| & | & | & | yes | = | no |
`

// row is an operator and its rule.
type row struct {
	op   byte
	rule oper.Rule
}

// rows are the lines of the chapter's table.
func rows(t *testing.T) []row {
	var l []row
	for line := range strings.Lines(strings.TrimSpace(table)) {
		cells := strings.Split(strings.Trim(strings.TrimSpace(line), "| "), " | ")
		if len(cells) != 6 {
			t.Fatalf("%q has %d cells", line, len(cells))
		}
		var op byte
		if cells[0] != "0 (none)" {
			op = cells[0][0]
		}
		l = append(l, row{op, oper.Rule{First: written(cells[1]), Sep: written(cells[2]), Named: cells[3] == "yes", Empty: written(cells[4]), Keep: cells[5] == "yes"}})
	}
	return l
}

// written is the text that a cell of the table stands for.
func written(cell string) string {
	if cell == "nothing" {
		return ""
	}
	return cell
}

// P10.1: Of each operator by hand.
func TestOf(t *testing.T) {
	for _, x := range []row{
		{0, oper.Rule{First: "", Sep: ",", Named: false, Empty: "", Keep: false}},
		{'+', oper.Rule{First: "", Sep: ",", Named: false, Empty: "", Keep: true}},
		{'#', oper.Rule{First: "#", Sep: ",", Named: false, Empty: "", Keep: true}},
		{'.', oper.Rule{First: ".", Sep: ".", Named: false, Empty: "", Keep: false}},
		{'/', oper.Rule{First: "/", Sep: "/", Named: false, Empty: "", Keep: false}},
		{';', oper.Rule{First: ";", Sep: ";", Named: true, Empty: "", Keep: false}},
		{'?', oper.Rule{First: "?", Sep: "&", Named: true, Empty: "=", Keep: false}},
		{'&', oper.Rule{First: "&", Sep: "&", Named: true, Empty: "=", Keep: false}},
	} {
		if r, ok := oper.Of(x.op); !ok || r != x.rule {
			t.Errorf("Of(%q) = %+v, %v", x.op, r, ok)
		}
	}
}

// P10.1: what is no operator, though it stands in templates, or is reserved for operators by RFC 6570, has none.
func TestNone(t *testing.T) {
	for _, op := range []byte("!=,@|*:{}()$%-_~ aZ09\x01\n\x7F\x80\xFF") {
		if r, ok := oper.Of(op); ok || r != (oper.Rule{}) {
			t.Errorf("Of(%q) = %+v, %v", op, r, ok)
		}
	}
}

// P10.1, P1: Of every byte, and All, by the chapter's table and by tmpl.Operator.
func TestEveryByte(t *testing.T) {
	whole := rows(t)
	if len(whole) != 8 {
		t.Fatalf("%d rows", len(whole))
	}
	var all []byte
	for c := range 256 {
		op := byte(c)
		want := row{op: op}
		i := slices.IndexFunc(whole, func(x row) bool { return x.op == op })
		if i >= 0 {
			want = whole[i]
			all = append(all, op)
		}
		if r, ok := oper.Of(op); ok != (i >= 0) || ok != tmpl.Operator(op) || r != want.rule {
			t.Errorf("Of(%q) = %+v, %v", op, r, ok)
		}
	}
	if l := oper.All(); !slices.Equal(l, all) || string(l) != "\x00#&+./;?" || !slices.IsSorted(l) {
		t.Errorf("All() = %q", l)
	}
}

// P10.2: no two operators have the same rule.
func TestApart(t *testing.T) {
	seen := map[oper.Rule]byte{}
	for _, op := range oper.All() {
		r, ok := oper.Of(op)
		if was, twice := seen[r]; !ok || twice {
			t.Errorf("Of(%q) = %+v, %v, which %q has", op, r, ok, was)
		}
		seen[r] = op
	}
	if len(seen) != 8 {
		t.Errorf("%d rules", len(seen))
	}
}

// R3, R4: what is told is the caller's own: a later answer isn't changed with it.
func TestOwn(t *testing.T) {
	l := oper.All()
	for i := range l {
		l[i] = 'x'
	}
	if again := oper.All(); string(again) != "\x00#&+./;?" {
		t.Errorf("All() = %q after the one before was changed", again)
	}
	r, _ := oper.Of('?')
	r.First, r.Named = "x", false
	if again, ok := oper.Of('?'); !ok || again != (oper.Rule{First: "?", Sep: "&", Named: true, Empty: "="}) {
		t.Errorf("Of('?') = %+v, %v after the one before was changed", again, ok)
	}
}
