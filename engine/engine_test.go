package engine_test

import (
	"math"
	"slices"
	"strconv"
	"testing"

	"graft/api"
	"graft/engine"
)

// shape tells rows in short: R root, B broken, X error node, of inner nodes the production's number, each with its children in brackets; leaves by their signs, # bad, $ end.
func shape(signs string, rows []api.Row) string {
	out, _ := shapeOf(signs, rows)
	return out
}

func shapeOf(signs string, rows []api.Row) (string, []api.Row) {
	r, out := rows[0], ""
	rows = rows[1:]
	switch r.Kind {
	case api.NLeaf:
		return ("$#" + signs)[r.N+2 : r.N+3], rows
	case api.NInner:
		out = strconv.Itoa(r.N)
	default:
		out = []string{"X", "R", "B"}[r.Kind-api.NError]
	}
	out += "("
	for range r.Kids {
		var kid string
		kid, rows = shapeOf(signs, rows)
		out += kid
	}
	return out + ")", rows
}

// TestTenExamples are those of DOC.md: the spec's texts.
func TestTenExamples(t *testing.T) {
	e := compiled(t, ten)
	for _, c := range []struct {
		text, shape string
		leaves      []api.Leaf // the first ones
	}{
		{"1;", "R(0(1()2(5(6(1));))$)", []api.Leaf{{Kind: 0, Len: 1, Reach: 2}, {Kind: 2, Len: 1, Reach: 2}, {Kind: api.KEnd, Reach: 1}}},
		{"", "R(1()$)", []api.Leaf{{Kind: api.KEnd, Reach: 1}}},
		{"1 + 2 ;", "R(0(1()2(4(5(6(1))+6(1));))$)", []api.Leaf{{Kind: 0, Len: 1, Reach: 2}, {Kind: 1, Skip: 1, Len: 1, Reach: 3}, {Kind: 0, Skip: 1, Len: 1, Reach: 3}, {Kind: 2, Skip: 1, Len: 1, Reach: 3}}},
		{"1 2;", "R(0(1()3(X(11);))$)", nil},
		{"1+;", "R(0(1()3(X(5(6(1))+);))$)", nil},
		{";", "R(0(1()3(X();))$)", nil},
		{"1", "B(1$)", nil},
		{"1;#;2;", "R(0(0(0(1()2(5(6(1));))3(X(#);))2(5(6(1));))$)", []api.Leaf{{Kind: 0, Len: 1, Reach: 2}, {Kind: 2, Len: 1, Reach: 2}, {Kind: api.KBad, Len: 1, Reach: 1}}},
	} {
		s := take(t, opened(t, e, c.text), 0)
		if got := shape("1+;", s.rows); got != c.shape {
			t.Errorf("P1305: %q: %s, not %s", c.text, got, c.shape)
		}
		if n := len(c.leaves); n > 0 && !slices.Equal(s.leaves[:n], c.leaves) {
			t.Errorf("P1305: %q: %v, not %v", c.text, s.leaves, c.leaves)
		}
	}
}

// TestTwoWays is the tenth of them: two ways to one text.
func TestTwoWays(t *testing.T) {
	e := compiled(t, ten)
	a, b := watched(t, e, nil, "1;"), watched(t, e, nil, "2;")
	a.edit(t, 0, api.Edit{At: 2, Ins: []byte("2;")})
	b.edit(t, 0, api.Edit{At: 0, Ins: []byte("1;")})
	if !a.shots[1].alike(b.shots[1]) {
		t.Errorf("P1308: %v and %v", a.shots[1], b.shots[1])
	}
}

// TestExampleOne is the chapter's first one.
func TestExampleOne(t *testing.T) {
	d := watched(t, compiled(t, ten), nil, "1;")
	d.edit(t, 0, api.Edit{At: 1, Ins: []byte("2")})
	d.edit(t, 0, api.Edit{At: 0, Del: 1})
	for i, text := range []string{"1;", "12;", ";"} {
		if b, e := d.d.Text(i); string(b) != text || e != api.OK {
			t.Errorf("P1305: %q %v, not %q", b, e, text)
		}
	}
	if d.d.Versions() != 3 {
		t.Errorf("P1304: %d", d.d.Versions())
	}
	if o, e := d.d.From(2); o.Parent != 0 || !sameEdit(o.Edit, api.Edit{Del: 1}) || e != api.OK {
		t.Errorf("P1304: %v %v", o, e)
	}
	if o, e := d.d.From(0); o.Parent != -1 || !sameEdit(o.Edit, api.Edit{Ins: []byte("1;")}) || e != api.OK {
		t.Errorf("P1304: %v %v", o, e)
	}
	// The second one.
	d.refused(t, 3, 0, 0, nil, api.ErrVersion)
	d.refused(t, 0, 3, 0, nil, api.ErrRange)
	d.refused(t, 0, 0, math.MaxInt, nil, api.ErrRange)
	d.refused(t, 0, -1, 0, nil, api.ErrRange)
	// The third one.
	if l, e := d.d.Errors(0); len(l) > 0 || e != api.OK {
		t.Errorf("P1307: %v %v", l, e)
	}
	if l, e := d.d.Errors(2); !slices.Equal(l, []api.Span{{}}) || e != api.OK {
		t.Errorf("P1307: %v %v", l, e)
	}
	// The fourth one: the first leaf begins where nothing is put in, so all leaves stay.
	d.edit(t, 1, api.Edit{})
	if d.shots[3].text != "12;" || d.shots[3].root != d.shots[1].root {
		t.Errorf("P1306: %q", d.shots[3].text)
	}
}

// TestNothingPutIn: an edit that changes no byte makes anew what had looked at its place.
func TestNothingPutIn(t *testing.T) {
	d := watched(t, compiled(t, ten), nil, "1;2;3;")
	d.edit(t, 0, api.Edit{At: 2})
	d.edit(t, 0, api.Edit{At: 6})
	for _, c := range []struct{ version, kept int }{{1, 14}, {2, 17}} {
		if got := stay(d.shots[0].rows, d.shots[c.version].rows); got != c.kept || d.shots[c.version].text != "1;2;3;" {
			t.Errorf("P1306: %d nodes stay in version %d", got, c.version)
		}
	}
}

// stay tells how many rows of the second have an Id of the first.
func stay(a, b []api.Row) (n int) {
	ids := map[int]bool{}
	for _, r := range a {
		ids[r.Id] = true
	}
	for _, r := range b {
		if ids[r.Id] {
			n++
		}
	}
	return n
}

// TestNodesStay is the ninth example of DOC.md, the first of chapter 12: the list over the first statement stays, the leaf that had looked at the edit does not.
func TestNodesStay(t *testing.T) {
	d := watched(t, compiled(t, ten), nil, "1;2;3;")
	d.edit(t, 0, api.Edit{At: 4, Del: 1, Ins: []byte("45")})
	a, b := d.shots[0], d.shots[1]
	if stay(a.rows, b.rows) != 12 || a.rows[3] != b.rows[3] || a.rows[0].Id == b.rows[0].Id || b.text != "1;2;45;" {
		t.Errorf("P1306: %v and %v", a.rows, b.rows)
	}
	// Of the parent alone: what version 0 has and version 1 has not does not come back.
	d.edit(t, 1, api.Edit{At: 4, Del: 2, Ins: []byte("3")})
	if n := stay(a.rows, d.shots[2].rows); n != 12 || !d.shots[2].alike(a) {
		t.Errorf("P1306: %d nodes stay", n)
	}
}

// TestNoVersion is P1304 and P1305 of numbers that are none.
func TestNoVersion(t *testing.T) {
	e := compiled(t, ten)
	d := watched(t, e, nil, "1 2;")
	d.edit(t, 0, api.Edit{At: 1, Ins: []byte("+")})
	for _, n := range []int{-1, 2, 3, 4096, math.MinInt, math.MaxInt} {
		wantNone(t, d.d, n)
		for _, numbers := range [][2]int{{0, 0}, {-1, 0}, {9, 9}, {math.MaxInt, math.MaxInt}} {
			d.refused(t, n, numbers[0], numbers[1], []byte("x"), api.ErrVersion)
		}
	}
}

// wantNone holds of every call that a number is no version's, and that nothing stands beside the error.
func wantNone(t *testing.T, d *engine.Doc, n int) {
	t.Helper()
	if o, e := d.From(n); e != api.ErrVersion || o.Parent != 0 || !sameEdit(o.Edit, api.Edit{}) {
		t.Errorf("P1304: From(%d): %v %v", n, o, e)
	}
	if b, e := d.Text(n); e != api.ErrVersion || len(b) > 0 {
		t.Errorf("P1305: Text(%d): %v %v", n, b, e)
	}
	if r, e := d.Rope(n); e != api.ErrVersion || r != nil {
		t.Errorf("P1305: Rope(%d): %v %v", n, r, e)
	}
	if l, e := d.Leaves(n); e != api.ErrVersion || len(l) > 0 {
		t.Errorf("P1305: Leaves(%d): %v %v", n, l, e)
	}
	if l, e := d.Tree(n); e != api.ErrVersion || len(l) > 0 {
		t.Errorf("P1305: Tree(%d): %v %v", n, l, e)
	}
	if r, e := d.Root(n); e != api.ErrVersion || r != nil {
		t.Errorf("P1305: Root(%d): %v %v", n, r, e)
	}
	if l, e := d.Errors(n); e != api.ErrVersion || len(l) > 0 {
		t.Errorf("P1307: Errors(%d): %v %v", n, l, e)
	}
}
