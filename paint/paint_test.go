package paint_test

import (
	"fmt"
	"slices"
	"testing"

	"graft/api"
	"graft/engine"
	"graft/paint"
	"graft/spec"
	"graft/tree"
)

// The languages of texts: that of the document's examples; calls with strings, notes and line ends; blocks that grow on the right; nests; names over nothing at many places; and one without error productions.
const (
	ten    = `token num = /[0-9]+/; token plus = /\+/; token semi = /;/; skip ws = / +/; start L; L = L S | ; S = E semi | error semi; E = E plus T | T; T = num;`
	calls  = `token name = /[a-z]+/; token num = /[0-9]+/; token text = /"[^"]*"/; token eq = /=/; token o = /\(/; token c = /\)/; token comma = /,/; token semi = /;/; skip s = /[ \n]+/; skip note = /#[^\n]*/; start P; P = P S | ; S = name eq V semi | V semi | error semi; V = num | text | name | name o A c | o error c; A = L | ; L = L comma V | V;`
	blocks = `token x = /x/; token semi = /;/; token o = /o/; token c = /c/; skip ws = /[ \n]+/; start B; B = S B | ; S = x semi | error semi | o B c;`
	nest   = `token l = /l\n?/; token r = /r/; token x = /x/; start S; S = l S r | x | error;`
	empty  = `token x = /x/; token s = /;/; token o = /o/; token c = /c/; skip ws = /\n/; start P; P = N L; L = L S | ; N = M M; M = ; K = ; S = x N s K | o P c N | error s K;`
	strict = `token a = /a+/; token b = /b\n?/; skip ws = / /; start S; S = a S b | ;`
)

// language is one of these, with a text of it, and bytes to edit it with.
type language struct {
	spec, text, bytes string
}

func languages() []language {
	return []language{
		{ten, "12+3 ; 4;5+6 7;  8;", "0123456789++;;;  #\n"},
		{calls, "a = f(1,\n\"b\nc\", g()); # d\n ( 2 3 );\n7;", "ab12\"=(),;;# \n@"},
		{blocks, "x;o\nx;x;c o oc\nc x;", "xxx;;oc #\n"},
		{nest, "lll\nxrrr", "lrx#\n"},
		{empty, "x;ox;c\noc;;x;", "x;oc#\n"},
		{strict, "aa a b\nb", "ab  \n"},
	}
}

func readSpec(t testing.TB, text string) api.Spec {
	t.Helper()
	s, f := spec.Parse(text)
	if f != (api.Fault{}) {
		t.Fatalf("%s: %+v", text, f)
	}
	return s
}

// compiled is the engine of a spec's text.
func compiled(t testing.TB, text string) *engine.Engine {
	t.Helper()
	e, f := engine.Compile(readSpec(t, text))
	if f != (api.Fault{}) {
		t.Fatalf("%s: %+v", text, f)
	}
	return e
}

// version is a tree with its text.
type version struct {
	root *tree.Node
	text []byte
}

// asked is a version of a document.
func asked(t testing.TB, d *engine.Doc, n int) version {
	t.Helper()
	root, e := d.Root(n)
	text, e2 := d.Text(n)
	if e != api.OK || e2 != api.OK {
		t.Fatal(e, e2)
	}
	return version{root, text}
}

// opened is a text of a language.
func opened(t testing.TB, e *engine.Engine, text string) version {
	t.Helper()
	d, err := e.Open([]byte(text))
	if err != api.OK {
		t.Fatalf("%v of %d bytes", err, len(text))
	}
	return asked(t, d, 0)
}

func row(from, to int, name string) api.Paint { return api.Paint{From: from, To: to, Name: name} }

func span(from, to int) api.Span { return api.Span{From: from, To: to} }

func entry(depth, from, to int, name string) api.Entry {
	return api.Entry{Depth: depth, From: from, To: to, Name: name}
}

// short is how something is told of a test that fails.
func short(x any) string { return fmt.Sprintf("%.500s", fmt.Sprintf("%+v", x)) }

// lists are what a painter is made of.
type lists struct {
	styles         []api.Style
	folds, outline []string
}

// painter is one that is right.
func painter(t testing.TB, s api.Spec, l lists) *paint.Painter {
	t.Helper()
	p, f := paint.New(s, l.styles, l.folds, l.outline)
	if p == nil || f != (api.Fault{}) {
		t.Fatalf("P1601: %s: %+v", short(l), f)
	}
	return p
}

// styles are made of queries and names, by turns.
func styles(l ...string) (out []api.Style) {
	for i := 0; i < len(l); i += 2 {
		out = append(out, api.Style{Query: l[i], Name: l[i+1]})
	}
	return out
}

// answers are all that a painter tells of a version.
type answers struct {
	paints  []api.Paint
	folds   []api.Span
	entries []api.Entry
}

// told asks all that there is to ask of a version.
func told(t testing.TB, p *paint.Painter, v version) answers {
	t.Helper()
	paints, e1 := p.Paints(v.root, v.text)
	folds, e2 := p.Folds(v.root, v.text)
	entries, e3 := p.Outline(v.root, v.text)
	if e1 != api.OK || e2 != api.OK || e3 != api.OK {
		t.Fatalf("P1602 to P1604: %v, %v, %v of %.100q", e1, e2, e3, v.text)
	}
	return answers{paints, folds, entries}
}

// same says whether all that is told is the same.
func same(a, b answers) bool {
	return slices.Equal(a.paints, b.paints) && slices.Equal(a.folds, b.folds) && slices.Equal(a.entries, b.entries)
}

// wantPaints holds what Paints tells.
func wantPaints(t *testing.T, what string, p *paint.Painter, v version, want ...api.Paint) {
	t.Helper()
	got, e := p.Paints(v.root, v.text)
	if e != api.OK || !slices.Equal(got, want) {
		t.Errorf("P1602: %s: %s, %v, want %s", what, short(got), e, short(want))
	}
}

// wantFolds holds what Folds tells.
func wantFolds(t *testing.T, what string, p *paint.Painter, v version, want ...api.Span) {
	t.Helper()
	got, e := p.Folds(v.root, v.text)
	if e != api.OK || !slices.Equal(got, want) {
		t.Errorf("P1603: %s: %s, %v, want %s", what, short(got), e, short(want))
	}
}

// wantOutline holds what Outline tells.
func wantOutline(t *testing.T, what string, p *paint.Painter, v version, want ...api.Entry) {
	t.Helper()
	got, e := p.Outline(v.root, v.text)
	if e != api.OK || !slices.Equal(got, want) {
		t.Errorf("P1604: %s: %s, %v, want %s", what, short(got), e, short(want))
	}
}

// wantRefused holds that all calls of a version are refused with an error, and tell nothing beside it.
func wantRefused(t *testing.T, what string, p *paint.Painter, v version, want api.Errno) {
	t.Helper()
	if l, e := p.Paints(v.root, v.text); e != want || len(l) > 0 {
		t.Errorf("P1602: %s: %s, %v, want %v", what, short(l), e, want)
	}
	if l, e := p.Folds(v.root, v.text); e != want || len(l) > 0 {
		t.Errorf("P1603: %s: %s, %v, want %v", what, short(l), e, want)
	}
	if l, e := p.Outline(v.root, v.text); e != want || len(l) > 0 {
		t.Errorf("P1604: %s: %s, %v, want %v", what, short(l), e, want)
	}
}
