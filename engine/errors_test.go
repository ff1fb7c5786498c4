package engine_test

import (
	"slices"
	"strings"
	"testing"

	"graft/api"
)

func at(from, to int) api.Span { return api.Span{From: from, To: to} }

// twins has error nodes side by side, with and without leaves; nests has error nodes below others, and without leaves at the end.
const (
	twins = "token x = /x/; token y = /y/; token s = /;/; skip w = / +/; start L; L = L S | ; S = y | error x s | error error s;"
	nests = "token x = /x/; token o = /o/; token c = /c/; token s = /;/; skip w = / +/; start L; L = L S | ; S = B s | error s; B = o B c | o error c | x;"
	tail  = "token x = /x/; token y = /y/; skip w = / +/; start S; S = x A | y; A = B error; B = N N; N = ;"
)

// TestErrors is P1307 by cases: of each, where the document says that it went wrong.
func TestErrors(t *testing.T) {
	for _, c := range []struct {
		what, spec, text, shape string
		want                    []api.Span
	}{
		{"right", ten, "1;", "R(0(1()2(5(6(1));))$)", nil},
		{"right, of nothing", ten, "", "R(1()$)", nil},
		{"right, of trivia", ten, "  ", "R(1()$)", nil},
		{"no leaves", ten, ";", "R(0(1()3(X();))$)", []api.Span{at(0, 0)}},
		{"no leaves, behind trivia", ten, "  ;", "R(0(1()3(X();))$)", []api.Span{at(2, 2)}},
		{"no leaves, behind others", ten, "1; ;", "R(0(0(1()2(5(6(1));))3(X();))$)", []api.Span{at(3, 3)}},
		{"two leaves", ten, "1 2;", "R(0(1()3(X(11);))$)", []api.Span{at(0, 3)}},
		{"a tree and a leaf", ten, " 1 +;", "R(0(1()3(X(5(6(1))+);))$)", []api.Span{at(1, 4)}},
		{"trivia ahead and behind", ten, "1;  2 3  ;", "", []api.Span{at(4, 7)}},
		{"a bad leaf", ten, "1;#;2;", "", []api.Span{at(2, 3)}},
		{"bad leaves at the front", ten, "## ;1;", "", []api.Span{at(0, 2)}},
		{"several", ten, "#;1;;1 1; +;", "", []api.Span{at(0, 1), at(4, 4), at(5, 8), at(10, 11)}},
		{"broken", ten, "1", "B(1$)", []api.Span{at(0, 1)}},
		{"broken, with trivia around", ten, " 1  ", "B(1$)", []api.Span{at(0, 4)}},
		{"broken behind errors", ten, ";;#", "B(;;#$)", []api.Span{at(0, 3)}},
		{"side by side", twins, "x y ;", "R(0(1()4(X()X(xy);))$)", []api.Span{at(0, 0), at(0, 3)}},
		{"side by side, both with leaves", twins, "; x x;", "R(0(1()4(X(;)X(xx);))$)", []api.Span{at(0, 1), at(2, 5)}},
		{"one below another", nests, "o#cx;", "R(0(1()3(X(oX(#)cx);))$)", []api.Span{at(0, 4)}},
		{"one below another, then some beside", nests, " o#cx; x x; #;", "", []api.Span{at(1, 5), at(7, 10), at(12, 13)}},
		{"in a tree below another", nests, "oo#ccx;", "R(0(1()3(X(o5(oX(#)c)cx);))$)", []api.Span{at(0, 6)}},
		{"over all up to a leaf far away", nests, "o#cx; x;o x #c;", "", []api.Span{at(1, 13)}},
		{"at the end, no leaves", tail, "x", "R(0(x2(3(4()4())X()))$)", []api.Span{at(1, 1)}},
		{"at the end, no leaves, trivia behind", tail, "x  ", "R(0(x2(3(4()4())X()))$)", []api.Span{at(3, 3)}},
		{"at the end", tail, "x  y # ", "R(0(x2(3(4()4())X(y#)))$)", []api.Span{at(3, 6)}},
	} {
		s := take(t, opened(t, compiled(t, c.spec), c.text), 0)
		signs := map[string]string{ten: "1+;", twins: "xy;", nests: "xoc;", tail: "xy"}[c.spec]
		if got := shape(signs, s.rows); c.shape != "" && got != c.shape {
			t.Errorf("P13: %s: %s, not %s", c.what, got, c.shape)
		}
		if !slices.Equal(s.errors, c.want) {
			t.Errorf("P1307: %s: %v, not %v", c.what, s.errors, c.want)
		}
		if m := newModel(read(t, c.spec)); !slices.Equal(m.tree(s.leaves).errors(s.leaves), c.want) {
			t.Errorf("%s: the model tells other errors", c.what)
		}
	}
}

// TestErrorsOfVersions: what an edit makes wrong is told of its version alone.
func TestErrorsOfVersions(t *testing.T) {
	d := watched(t, compiled(t, nests), newModel(read(t, nests)), "x;oxc;x;")
	d.edit(t, 0, api.Edit{At: 3, Del: 1, Ins: []byte(" xx")})
	d.edit(t, 1, api.Edit{At: 0, Del: 1})
	d.edit(t, 2, api.Edit{At: 6, Del: 1})
	d.edit(t, 1, api.Edit{At: 3, Del: 3, Ins: []byte("x")})
	for i, want := range [][]api.Span{nil, {at(4, 6)}, {at(0, 0), at(3, 5)}, {at(0, 0), at(1, 7)}, nil} {
		if !slices.Equal(d.shots[i].errors, want) {
			t.Errorf("P1307: version %d, %q: %v, not %v", i, d.shots[i].text, d.shots[i].errors, want)
		}
	}
}

// TestManyErrors: as many errors as statements.
func TestManyErrors(t *testing.T) {
	const many = 1 << 14
	l, e := opened(t, compiled(t, ten), strings.Repeat(" ;1 1;", many)).Errors(0)
	if e != api.OK || len(l) != 2*many {
		t.Fatalf("P1307: %d %v", len(l), e)
	}
	for i := range many {
		if l[2*i] != at(6*i+1, 6*i+1) || l[2*i+1] != at(6*i+2, 6*i+5) {
			t.Fatalf("P1307: %v %v, at %d", l[2*i], l[2*i+1], i)
		}
	}
}
