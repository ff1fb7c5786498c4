package pack_test

import (
	"bytes"
	"math/rand"
	"reflect"
	"slices"
	"strings"
	"testing"

	"graft/api"
	"graft/engine"
	"graft/expr"
	"graft/pack"
	"graft/spec"
)

// ten is the spec of the document's examples.
const ten = `token num = /[0-9]+/; token plus = /\+/; token semi = /;/; skip ws = / +/; start L; L = L S | ; S = E semi | error semi; E = E plus T | T; T = num;`

// ambiguous is a spec with a conflict.
const ambiguous = `token x = /x/; token plus = /\+/; start E; E = E plus E | x;`

// language is a spec with right texts of it, and bits of which wrong ones are made.
type language struct {
	spec  string
	right []string
	bits  []string
}

// languages are of several kinds: lists, nests, productions over nothing, error productions at many places and none, patterns of all kinds.
func languages() []language {
	return []language{
		{ten, []string{"", "1;", "1+2;3 ;", " 12 + 3;4;"}, []string{"1", "+", ";", " ", "22", "#"}},
		{`token name = /[a-z]+/; token num = /[0-9]+(\.[0-9]+)?/; token text = /"[^"]*"/; token eq = /=/; token o = /\(/; token c = /\)/; token comma = /,/; token semi = /;/; skip s = /[ \n]+/; skip note = /#[^\n]*/; start P; P = P S | ; S = name eq V semi | V semi | error semi; V = num | text | name | name o A c | o error c; A = L | ; L = L comma V | V;`,
			[]string{"", "a = f(1, \"b\", g());\n", "1.5; #n\nx;"}, []string{"a", "1", ".5", "\"", "=", "(", ")", ",", ";", " ", "\n", "#", "\xff"}},
		{"token l = /l/; token r = /r/; token x = /x/; skip w = / /; start S; S = l S r | x | error;", []string{"x", "lxr", "l l x r r"}, []string{"l", "r", "x", " ", "\x00"}},
		{"token a = /a/; token b = /b/; start S; S = a S b | ;", []string{"", "ab", "aaabbb"}, []string{"a", "b", "c"}},
		{"token a = /a/; token b = /b/; token c = /c/; skip w = / +/; start S; S = A B C | S error; A = a | ; B = b | ; C = c D | error a; D = E E; E = ;", []string{"abc", "c", " b c"}, []string{"a", "b", "c", " ", "-"}},
		{"token dots = /[.]{3}/; token dot = /[.]/; token ab = /a(bc)*/; token b = /b{1,1000}/; token c = /c/; skip far = /-(--){0,}/; start S; S = S I | ; I = ab dot | b dots | error c | c;", []string{"", "abc.b...c"}, []string{".", "a", "bc", "c", "-", "--"}},
		{`token all = /[^x]/; token x = /x|x{3,5}/; start L; L = all L | x L | ;`, []string{"", "xa", "\x00\xffxxxx"}, []string{"x", "\x00", "\n", "\xfe"}},
		{"start N; N = M M; M = ;", []string{""}, []string{"a", "\x80"}},
	}
}

func read(t testing.TB, text string) api.Spec {
	t.Helper()
	s, f := spec.Parse(text)
	if f != (api.Fault{}) {
		t.Fatalf("%s: %+v", text, f)
	}
	return s
}

func pattern(t testing.TB, text string) api.Expr {
	t.Helper()
	e, f := expr.Parse(text)
	if f != (api.Fault{}) {
		t.Fatalf("%s: %+v", text, f)
	}
	return e
}

func compiled(t testing.TB, s api.Spec) *engine.Engine {
	t.Helper()
	e, f := engine.Compile(s)
	if e == nil || f != (api.Fault{}) {
		t.Fatalf("%+v: %+v", s, f)
	}
	return e
}

func opened(t testing.TB, e *engine.Engine, text string) *engine.Doc {
	t.Helper()
	d, err := e.Open([]byte(text))
	if d == nil || err != api.OK {
		t.Fatalf("%v of %d bytes", err, len(text))
	}
	return d
}

// edit edits a version, and tells the number of the new one.
func edit(t testing.TB, d *engine.Doc, version, at, del int, ins string) int {
	t.Helper()
	n, err := d.Edit(version, at, del, []byte(ins))
	if err != api.OK {
		t.Fatalf("%v of version %d by %d %d and %d bytes", err, version, at, del, len(ins))
	}
	return n
}

// first is the Origin of a version 0.
func first(text string) api.Origin {
	return api.Origin{Parent: -1, Edit: api.Edit{Ins: []byte(text)}}
}

// next is the Origin of another version.
func next(parent, at, del int, ins string) api.Origin {
	return api.Origin{Parent: parent, Edit: api.Edit{At: at, Del: del, Ins: []byte(ins)}}
}

func term(n int) api.Sym { return api.Sym{Kind: api.STerminal, N: n} }

func name(n int) api.Sym { return api.Sym{Kind: api.SName, N: n} }

func makes(left int, right ...api.Sym) api.Production {
	return api.Production{Left: left, Right: right}
}

// nothing is the spec of the chapter's first example.
func nothing() api.Spec {
	return api.Spec{Names: []string{"S"}, Productions: []api.Production{{}}}
}

// withPattern is a spec of one rule a with a pattern.
func withPattern(e api.Expr) api.Spec {
	s := nothing()
	s.Lex = []api.LexRule{{Name: "a", Expr: e}}
	return s
}

// span is a pattern of one byte.
func span(from, to int) api.Expr { return api.Expr{Kind: api.XRange, From: from, To: to} }

func seq(parts ...api.Expr) api.Expr { return api.Expr{Kind: api.XSeq, List: parts} }

func alt(parts ...api.Expr) api.Expr { return api.Expr{Kind: api.XAlt, List: parts} }

func times(least, most int, e api.Expr) api.Expr {
	return api.Expr{Kind: api.XRepeat, Min: least, Max: most, List: []api.Expr{e}}
}

// nest is a pattern with values so deep in one another, the top one counted.
func nest(depth int) api.Expr {
	e := span(7, 9)
	for range depth - 1 {
		e = times(1, 1, e)
	}
	return e
}

// wide is a pattern with so many values.
func wide(count int) api.Expr { return alt(slices.Repeat([]api.Expr{span(3, 4)}, count-1)...) }

// endless holds itself.
func endless() api.Expr {
	list := make([]api.Expr, 2)
	list[0] = seq(list...) // the list itself, no copy
	list[1] = list[0]
	return list[0]
}

// plain is a copy of a spec without spare room, and with no list that is empty and not nil.
func plain(s api.Spec) api.Spec {
	s.Lex, s.Names, s.Productions = append([]api.LexRule(nil), s.Lex...), append([]string(nil), s.Names...), append([]api.Production(nil), s.Productions...)
	for i, rule := range s.Lex {
		s.Lex[i].Expr = plainExpr(rule.Expr)
	}
	for i, p := range s.Productions {
		s.Productions[i].Right = append([]api.Sym(nil), p.Right...)
	}
	return s
}

func plainExpr(e api.Expr) api.Expr {
	e.List = append([]api.Expr(nil), e.List...)
	for i, x := range e.List {
		e.List[i] = plainExpr(x)
	}
	return e
}

func sameSpec(a, b api.Spec) bool { return reflect.DeepEqual(plain(a), plain(b)) }

// wild is a spec of any kind that has a pack; nothing else is asked of it.
func wild(r *rand.Rand) api.Spec {
	var s api.Spec
	for range few(r, api.MaxLex) {
		s.Lex = append(s.Lex, api.LexRule{Name: wildName(r), Trivia: r.Intn(3) == 0, Expr: wildPattern(r)})
	}
	for range 1 + few(r, api.MaxNames-1) {
		s.Names = append(s.Names, wildName(r))
	}
	s.Start = r.Intn(len(s.Names))
	for range few(r, api.MaxProductions) {
		p := api.Production{Left: r.Intn(len(s.Names))}
		for range few(r, api.MaxRight) {
			p.Right = append(p.Right, wildSymbol(r, s))
		}
		s.Productions = append(s.Productions, p)
	}
	return s
}

// few is a small number most times, at times the greatest one.
func few(r *rand.Rand, most int) int {
	switch r.Intn(30) {
	case 0:
		return most
	case 1, 2, 3, 4:
		return 0
	}
	return r.Intn(min(most, 5))
}

func wildName(r *rand.Rand) string {
	b := make([]byte, []int{0, 1, 1, 2, 3, 5, 63, api.MaxName}[r.Intn(8)])
	r.Read(b)
	return string(b)
}

func wildSymbol(r *rand.Rand, s api.Spec) api.Sym {
	switch r.Intn(3) {
	case 0:
		return api.Sym{Kind: api.SError}
	case 1:
		if len(s.Lex) > 0 {
			return term(r.Intn(len(s.Lex)))
		}
	}
	return name(r.Intn(len(s.Names)))
}

// wildPattern is one that expr.Check takes.
func wildPattern(r *rand.Rand) api.Expr {
	for {
		e := grown(r, 1+r.Intn(5))
		for range r.Intn(60) * r.Intn(2) * r.Intn(2) {
			e = seq(e, span(1, 2))
		}
		if expr.Check(e) == api.OK {
			return e
		}
	}
}

// grown is a pattern that is so deep at most.
func grown(r *rand.Rand, depth int) api.Expr {
	var list []api.Expr
	if depth > 1 {
		for range r.Intn(4) {
			list = append(list, grown(r, depth-1))
		}
	}
	switch kind := 1 + r.Intn(4); {
	case kind == api.XRepeat && len(list) > 0:
		least := []int{0, 0, 1, 2, 255, 256, 1000}[r.Intn(7)]
		most := []int{-1, least, min(1000, least+r.Intn(300)), 1000}[r.Intn(4)]
		return times(least, most, list[0])
	case kind == api.XSeq && len(list) != 1:
		return seq(list...)
	case kind == api.XAlt && len(list) > 1:
		return alt(list...)
	}
	from := r.Intn(256)
	return span(from, from+r.Intn(256-from))
}

// grownDoc is a document of a language with so many versions, of right and wrong texts, by edits of any of them.
func grownDoc(t testing.TB, r *rand.Rand, l language, versions int) (*engine.Engine, *engine.Doc) {
	t.Helper()
	e := compiled(t, read(t, l.spec))
	d := opened(t, e, l.right[r.Intn(len(l.right))])
	for d.Versions() < versions {
		change(t, r, l, d)
	}
	return e, d
}

// change edits a version of a document, and tells how.
func change(t testing.TB, r *rand.Rand, l language, d *engine.Doc) api.Origin {
	t.Helper()
	version := r.Intn(d.Versions())
	if r.Intn(2) == 0 {
		version = d.Versions() - 1
	}
	text, _ := d.Text(version)
	at := r.Intn(len(text) + 1)
	o := next(version, at, r.Intn(min(3, len(text)-at)+1), "")
	switch r.Intn(6) {
	case 0:
		o.Edit.Ins = []byte(l.right[r.Intn(len(l.right))])
	case 1:
		o.Edit = api.Edit{Del: len(text), Ins: []byte(l.right[r.Intn(len(l.right))])}
	case 2, 3, 4:
		for range r.Intn(3) {
			o.Edit.Ins = append(o.Edit.Ins, l.bits[r.Intn(len(l.bits))]...)
		}
	}
	edit(t, d, o.Parent, o.Edit.At, o.Edit.Del, string(o.Edit.Ins))
	return o
}

// shot is all that a version tells, Ids left out.
type shot struct {
	text   string
	from   api.Origin
	leaves []api.Leaf
	rows   []api.Row
	errors []api.Span
}

func take(t testing.TB, d *engine.Doc, version int) (s shot) {
	t.Helper()
	var e [5]api.Errno
	var text []byte
	text, e[0] = d.Text(version)
	s.text = string(text)
	s.from, e[1] = d.From(version)
	s.leaves, e[2] = d.Leaves(version)
	s.rows, e[3] = d.Tree(version)
	s.errors, e[4] = d.Errors(version)
	if e != ([5]api.Errno{}) {
		t.Fatalf("%v of version %d", e, version)
	}
	for i := range s.rows {
		s.rows[i].Id = 0
	}
	return s
}

func (s shot) same(o shot) bool {
	return s.text == o.text && sameOrigin(s.from, o.from) && slices.Equal(s.leaves, o.leaves) && slices.Equal(s.rows, o.rows) && slices.Equal(s.errors, o.errors)
}

// shots are what all versions of a document tell.
func shots(t testing.TB, d *engine.Doc) (list []shot) {
	t.Helper()
	for v := range d.Versions() {
		list = append(list, take(t, d, v))
	}
	return list
}

func sameShots(a, b []shot) bool { return slices.EqualFunc(a, b, shot.same) }

// packed is the pack of a spec that has one.
func packed(t testing.TB, s api.Spec) []byte {
	t.Helper()
	b, err := pack.Spec(s)
	if err != api.OK {
		t.Fatalf("P1801: %v of %+v", err, s)
	}
	return b
}

// packedDoc is the pack of a document that has one.
func packedDoc(t testing.TB, e *engine.Engine, d *engine.Doc) []byte {
	t.Helper()
	b, err := pack.Doc(e, d)
	if err != api.OK {
		t.Fatalf("P1803: %v", err)
	}
	return b
}

// wantSpec holds what Spec answers against the words of P1801.
func wantSpec(t testing.TB, what string, s api.Spec) {
	t.Helper()
	b, err := pack.Spec(s)
	want := wantError(s)
	if err != want {
		t.Errorf("P1801: %s: %v, not %v", what, err, want)
		return
	}
	if want != api.OK && len(b) > 0 {
		t.Errorf("P4: %s: %d bytes beside %v", what, len(b), err)
	}
	if want == api.OK && !bytes.Equal(b, specBytes(s)) {
		t.Errorf("P1801: %s: % x, not % x", what, b, specBytes(s))
	}
}

// wantRead holds what ReadSpec answers against the words of P1802.
func wantRead(t testing.TB, what string, b []byte) told {
	t.Helper()
	s, bad := specOf(b)
	got, at, err := pack.ReadSpec(b)
	if (told{at, err}) != bad || !reflect.DeepEqual(got, s) && !sameSpec(got, s) {
		t.Fatalf("P1802: %s: %d %v %+v, not %+v %+v, of % x", what, at, err, got, bad, s, short(b))
	}
	return bad
}

// wantAt holds a fault of ReadSpec against a place and an error that are known.
func wantAt(t testing.TB, what string, b []byte, at int, err api.Errno) {
	t.Helper()
	if bad := wantRead(t, what, b); bad != (told{at, err}) {
		t.Errorf("P1802: %s: %+v, not %+v, of % x", what, bad, told{at, err}, short(b))
	}
}

// wantDoc holds what ReadDoc answers against the words of P1804.
func wantDoc(t testing.TB, what string, b []byte, c compiles) told {
	t.Helper()
	s, from, texts, bad := docOf(b, c)
	e, d, at, err := pack.ReadDoc(b)
	if (told{at, err}) != bad || (e != nil) != (bad.err == api.OK) || (d != nil) != (bad.err == api.OK) {
		t.Fatalf("P1804: %s: %d %v, not %+v, of % x", what, at, err, bad, short(b))
	}
	if bad.err != api.OK {
		return bad
	}
	if !sameSpec(e.Spec(), s) || d.Versions() != len(texts) {
		t.Fatalf("P1804: %s: %d versions of %+v, not %d of %+v", what, d.Versions(), e.Spec(), len(texts), s)
	}
	for v, text := range texts {
		got, _ := d.Text(v)
		if o, _ := d.From(v); !sameOrigin(o, from[v]) || string(got) != text {
			t.Fatalf("P1804: %s: version %d is %q from %+v, not %q from %+v", what, v, got, o, text, from[v])
		}
	}
	return bad
}

// wantDocAt holds a fault of ReadDoc against a place and an error that are known.
func wantDocAt(t testing.TB, what string, b []byte, at int, err api.Errno) {
	t.Helper()
	if bad := wantDoc(t, what, b, compiles{}); bad != (told{at, err}) {
		t.Errorf("P1804: %s: %+v, not %+v, of % x", what, bad, told{at, err}, short(b))
	}
}

// short is a row's front, to be told.
func short(b []byte) []byte { return b[:min(len(b), 300)] }

// long is a name of so many bytes.
func long(count int) string { return strings.Repeat("n", count) }
