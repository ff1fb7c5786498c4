package layout_test

import (
	"bytes"
	"fmt"
	"math/rand"
	"slices"
	"testing"

	"graft/api"
	"graft/engine"
	"graft/layout"
	"graft/rope"
	"graft/scan"
	"graft/spec"
	"graft/tree"
)

// The languages of texts: that of the document's examples, with and without comments; calls with strings and notes; blocks that grow on the right; nests; names over nothing at many places; words that run together; one without error productions, one without trivia, and some in which comments are of odd kinds.
const (
	ten     = `token num = /[0-9]+/; token plus = /\+/; token semi = /;/; skip ws = /[ \n]+/; start L; L = L S | ; S = E semi | error semi; E = E plus T | T; T = num;`
	noted   = `token num = /[0-9x]+/; token plus = /\+/; token semi = /;/; skip com = /#[^\n]*/; skip ws = /[ \n]+/; start L; L = L S | ; S = E semi | error semi; E = E plus T | T; T = num;`
	calls   = `token name = /[a-z]+/; token num = /[0-9]+/; token text = /"[^"]*"/; token eq = /=/; token o = /\(/; token c = /\)/; token comma = /,/; token semi = /;/; skip s = /[ \t\r\n]+/; skip note = /#[^\n]*/; start P; P = P S | ; S = name eq V semi | V semi | error semi; V = num | text | name | name o A c | o error c; A = L | ; L = L comma V | V;`
	blocks  = `token x = /x/; token semi = /;/; token o = /o/; token c = /c/; skip ws = /[ \t\r\n]+/; skip note = /-[^\-]*-/; start B; B = S B | ; S = x semi | error semi | o B c;`
	nest    = `token l = /l/; token r = /r/; token x = /x/; skip ws = /[ \n]/; start S; S = l S r | x | error;`
	empty   = `token x = /x/; token s = /;/; token o = /o/; token c = /c/; skip ws = /\n/; skip b = / +/; skip note = /#\n?/; start P; P = N L; L = L S | ; N = M M; M = ; K = ; S = x N s K | o P c N | error s K;`
	words   = `token if = /if/; token id = /[a-z]+/; token num = /[0-9]+(\.[0-9]+)?/; token dots = /\.\.\./; token dot = /\./; skip ws = /[ \n]+/; skip note = /'[^']*'/; start L; L = L W | ; W = if id num | id | num dot | dot num | dot dot dot | dots | error if;`
	strict  = `token a = /a+/; token b = /b\n?/; skip ws = / /; start S; S = a S b | ;`
	tight   = `token a = /a/; token b = /b/; token n = /\n/; start L; L = L I | ; I = a b | n a | error n;`
	wrapped = `token x = /x/; token s = /;/; skip note = /[ \n]*#[^\n]*\n/; skip ws = /[ \n]+/; start L; L = L I | ; I = x s | x x s | error s;`
	fragile = `token x = /x/; token s = /;/; skip note = /\n#+/; skip bit = /#/; skip ws = /[ \n]/; start L; L = L I | ; I = x | s x s | error s;`
	chain   = `token x = /x/; token y = /y/; skip ws = /[ \n]+/; start R; R = x R | y R | ;`
)

// language is one of these, with a text of it, and bytes to edit it with.
type language struct {
	spec, text, bytes string
}

func languages() []language {
	return []language{
		{ten, "12+3 ; 4;5+6 7;  8;", "0123456789++;;;  @\n"},
		{noted, "1 #x\n+2;#y\n#z \n3 4 ;#w", "12x+;;  ##\n@"},
		{calls, "a = f(1,\n\"b\nc\", g()); # d\n ( 2 3 );\n7;", "ab12\"=(),;;# \t\n@"},
		{blocks, "x;o\nx;-a-x;c o o-b - -- c\nc x;", "xxx;;oc --@\n\r"},
		{nest, "lll\nx rrr", "lrx@ \n"},
		{empty, "x;ox;c\n#oc #\n;;x;", "x;oc# \n@"},
		{words, "if a 12 b 3.5 .if. . .'c' ...1 .d", "if a1.. '\n@"},
		{strict, "aa a b\nb", "ab  \n"},
		{tight, "abab\na@\nab", "ab\n@ "},
		{wrapped, "x x ; #a\n x\n#b \n  # c\n;x;@;", "xx;;##\n @"},
		{fragile, "x\n## x;\n# #x;x\n#;#", "xx;##\n\n @"},
		{chain, "xy x\nyyx", "xy \n@"},
	}
}

func readSpec(t testing.TB, text string) api.Spec {
	t.Helper()
	s, f := spec.Parse(text)
	if f != (api.Fault{}) {
		t.Fatalf("%s: %+v", text, f)
	}
	return s
}

// compiled is the engine of a spec's text.
func compiled(t testing.TB, text string) *engine.Engine {
	t.Helper()
	e, f := engine.Compile(readSpec(t, text))
	if f != (api.Fault{}) {
		t.Fatalf("%s: %+v", text, f)
	}
	return e
}

// version is a tree with its text.
type version struct {
	root *tree.Node
	text string
}

// opened is a text of a language.
func opened(t testing.TB, e *engine.Engine, text string) version {
	t.Helper()
	d, err := e.Open([]byte(text))
	if err != api.OK {
		t.Fatalf("%v of %d bytes", err, len(text))
	}
	n, _ := d.Root(0)
	return version{n, text}
}

// gap is one number of a layout's lists: of a production, at a place.
type gap struct {
	production, at, kind int
}

// spaced are rules with Blank one blank, Line one line's end, Indent two blanks, and all gaps GNone but these.
func spaced(s api.Spec, gaps ...gap) api.Rules {
	r := filled(s, api.GNone)
	for _, g := range gaps {
		r.Gaps[g.production][g.at] = g.kind
	}
	return r
}

// filled are such rules with all gaps of one kind.
func filled(s api.Spec, kind int) api.Rules {
	r := api.Rules{Blank: " ", Line: "\n", Indent: "  "}
	for _, p := range s.Productions {
		r.Gaps = append(r.Gaps, slices.Repeat([]int{kind}, len(p.Right)+1))
	}
	return r
}

// usual are the rules of the chapter's examples, for ten and noted.
func usual(s api.Spec) api.Rules {
	return spaced(s, gap{2, 2, api.GLine}, gap{4, 1, api.GBlank}, gap{4, 2, api.GBlank})
}

// laid is the layout of rules that are right.
func laid(t testing.TB, s api.Spec, r api.Rules) *layout.Layout {
	t.Helper()
	l, f := layout.New(s, r)
	if l == nil || f != (api.Fault{}) {
		t.Fatalf("P1701: %s: %+v", short(r), f)
	}
	return l
}

// short is a value as text that a person can read.
func short(x any) string { return fmt.Sprintf("%.700s", fmt.Sprintf("%+v", x)) }

// done is a text with edits done, from the last one to the first.
func done(text string, edits []api.Edit) string {
	r, _ := rope.New([]byte(text))
	for _, e := range slices.Backward(edits) {
		var err api.Errno
		if r, err = r.Splice(e.At, e.Del, e.Ins); err != api.OK {
			return "no such edit: " + short(e)
		}
	}
	return string(r.Bytes())
}

func sameEdits(a, b []api.Edit) bool {
	return slices.EqualFunc(a, b, func(x, y api.Edit) bool {
		return x.At == y.At && x.Del == y.Del && bytes.Equal(x.Ins, y.Ins)
	})
}

// edit is an edit with its bytes as a string.
func edit(at, del int, ins string) api.Edit { return api.Edit{At: at, Del: del, Ins: []byte(ins)} }

// wantPrinted holds what is printed of a version, and that Edits says the same.
func wantPrinted(t *testing.T, what string, l *layout.Layout, v version, want string) {
	t.Helper()
	got, e := l.Print(v.root, []byte(v.text))
	if got != want || e != api.OK {
		t.Errorf("P1702: %s: %.200q: %.200q, %v, want %.200q", what, v.text, got, e, want)
	}
	edits, e := l.Edits(v.root, []byte(v.text))
	if e != api.OK || done(v.text, edits) != want {
		t.Errorf("P1704: %s: %.200q: %v, %s, want %.200q", what, v.text, e, short(edits), want)
	}
	wantByTrivia(t, v, edits)
}

// wantByTrivia is P1704: edits rise, each takes all trivia of a leaf out, and none does nothing.
func wantByTrivia(t *testing.T, v version, edits []api.Edit) {
	t.Helper()
	skips := map[int]int{}
	for at, n := range v.root.Leaves() {
		l, _ := n.Leaf()
		skips[at] = l.Skip
	}
	last := -1
	for _, e := range edits {
		if skip, is := skips[e.At]; e.At <= last || !is || skip != e.Del || v.text[e.At:e.At+e.Del] == string(e.Ins) {
			t.Errorf("P1704: %.200q: %+v among %d edits", v.text, e, len(edits))
			return
		}
		last = e.At
	}
}

// wantRefused holds the error with which Print and Edits refuse, with nothing beside it.
func wantRefused(t *testing.T, what string, l *layout.Layout, v version, want api.Errno) {
	t.Helper()
	if got, e := l.Print(v.root, []byte(v.text)); got != "" || e != want {
		t.Errorf("P1703: %s: %.200q: %.200q, %v, want %v", what, v.text, got, e, want)
	}
	if edits, e := l.Edits(v.root, []byte(v.text)); len(edits) > 0 || e != want {
		t.Errorf("P1704: %s: %.200q: %s, %v, want %v", what, v.text, short(edits), e, want)
	}
}

// leafNodes are the leaves of a text, as nodes of a store.
func leafNodes(t testing.TB, s *tree.Store, lex []api.LexRule, text string) (out []*tree.Node) {
	t.Helper()
	c, f := scan.New(lex)
	if f != (api.Fault{}) {
		t.Fatalf("%+v", f)
	}
	r, _ := rope.New([]byte(text))
	for _, l := range c.Leaves(r) {
		out = append(out, s.Leaf(l))
	}
	return out
}

// made is a node of a store.
func made(t testing.TB, s *tree.Store, kind, n int, kids ...*tree.Node) *tree.Node {
	t.Helper()
	x, e := s.Make(kind, n, kids...)
	if e != api.OK {
		t.Fatal(e)
	}
	return x
}

// pick is one of some.
func pick[T any](r *rand.Rand, of ...T) T { return of[r.Intn(len(of))] }

// wantMet holds that each of these was tried so many times.
func wantMet(t *testing.T, met map[string]int, times int, all ...string) {
	t.Helper()
	for _, what := range all {
		if met[what] < times {
			t.Errorf("too few tries: %s: %d of %d", what, met[what], times)
		}
	}
}
