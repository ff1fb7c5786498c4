package delta_test

import (
	"math/rand"
	"slices"
	"strings"
	"testing"

	"graft/api"
	"graft/delta"
	"graft/parse"
	"graft/relex"
	"graft/reuse"
	"graft/rope"
	"graft/scan"
	"graft/spec"
	"graft/states"
	"graft/table"
	"graft/tree"
)

// The languages of texts: that of the document's examples, blocks with lists that grow on the right, nests, a name over nothing at many places, and one without error productions.
const (
	ten    = `token num = /[0-9]+/; token plus = /\+/; token semi = /;/; skip ws = / +/; start L; L = L S | ; S = E semi | error semi; E = E plus T | T; T = num;`
	blocks = `token x = /x/; token semi = /;/; token o = /o/; token c = /c/; skip ws = / +/; start B; B = S B | ; S = x semi | error semi | o B c;`
	nest   = `token l = /l/; token r = /r/; token x = /x/; start S; S = l S r | x | error;`
	empty  = `token x = /x/; token s = /;/; token o = /o/; token c = /c/; start P; P = N L; L = L S | ; N = M M; M = ; K = ; S = x N s K | o P c N | error s K;`
	strict = `token a = /a+/; token b = /b/; skip ws = / /; start S; S = a S b | ;`
)

// page is a text with its tree, of which all nodes are of one store, as all trees' that were made out of it.
type page struct {
	t       *testing.T
	scanner *scan.Scanner
	table   *table.Table
	store   *tree.Store
	text    *rope.Rope
	leaves  []api.Leaf
	root    *tree.Node
}

// open reads a text of a language.
func open(t *testing.T, language, text string) *page {
	t.Helper()
	s, f := spec.Parse(language)
	if f != (api.Fault{}) {
		t.Fatalf("%s: %+v", language, f)
	}
	p := &page{t: t, store: tree.New()}
	p.scanner, f = scan.New(s.Lex)
	if f != (api.Fault{}) {
		t.Fatalf("%s: %+v", language, f)
	}
	a, f := states.Build(s)
	if f != (api.Fault{}) {
		t.Fatalf("%s: %+v", language, f)
	}
	var e api.Errno
	if p.table, e = table.Make(a); e != api.OK {
		t.Fatal(e)
	}
	if p.text, e = rope.New([]byte(text)); e != api.OK {
		t.Fatal(e)
	}
	p.leaves = p.scanner.Leaves(p.text)
	if p.root, _, e = parse.Build(p.table, p.store, p.leaves); e != api.OK {
		t.Fatal(e)
	}
	return p
}

// edited is the page behind an edit, made out of this one; and how many leaves are kept, ahead and behind.
func (p *page) edited(x api.Edit) (now *page, ahead, behind int) {
	p.t.Helper()
	n := *p
	var e api.Errno
	if n.text, e = p.text.Splice(x.At, x.Del, x.Ins); e != api.OK {
		p.t.Fatal(e)
	}
	if n.leaves, ahead, behind, e = relex.Relex(p.scanner, p.leaves, n.text, x); e != api.OK {
		p.t.Fatal(e)
	}
	if n.root, _, e = reuse.Parse(p.table, p.store, p.root, n.leaves, ahead, behind); e != api.OK {
		p.t.Fatal(e)
	}
	return &n, ahead, behind
}

// wantKept is P1509: no kept leaf stands in a Hunk; so there is one hunk at most, in the midst.
func wantKept(t *testing.T, a, b *tree.Node, ahead, behind int) {
	t.Helper()
	for _, h := range delta.Leaves(a, b) {
		if h.From < ahead || h.Into < ahead || h.To > a.Leafs()-behind || h.Upto > b.Leafs()-behind {
			t.Fatalf("P1509: %v, where of %d and %d leaves %d and %d are kept", h, a.Leafs(), b.Leafs(), ahead, behind)
		}
	}
	if want := ahead+behind < max(a.Leafs(), b.Leafs()); want != (len(delta.Leaves(a, b)) == 1) {
		t.Fatalf("P1509: %v, where of %d and %d leaves %d and %d are kept", delta.Leaves(a, b), a.Leafs(), b.Leafs(), ahead, behind)
	}
}

// wantBytes is P1507: the bytes of b's text outside of the spans are those of leaves of a, in their order: they can be found in a's text one row behind the other.
func wantBytes(t *testing.T, a, b *page) {
	t.Helper()
	old, now := a.text.Bytes(), b.text.Bytes()
	at, from := 0, 0
	spans := append(slices.Collect(delta.Ranges(a.root, b.root)), api.Span{From: len(now), To: len(now)})
	for _, s := range spans {
		for _, c := range now[at:s.From] {
			for from < len(old) && old[from] != c {
				from++
			}
			if from == len(old) {
				t.Fatalf("P1507: %q and %q: %v", old, now, spans)
			}
			from++
		}
		at = s.To
	}
}

// TestEditedTexts is P1501 to P1509 for texts, right and wrong and broken, that are made out of one another: each against the one that it came from, against older ones, and back.
func TestEditedTexts(t *testing.T) {
	r := rand.New(rand.NewSource(1509))
	met := map[string]int{}
	for _, c := range []struct{ language, text, bytes string }{
		{ten, "12+3 ; 4;5+6+7;  8;", "0123456789++;;;  #"},
		{ten, "", "1+;"},
		{blocks, "x;oxc;ooxcc; x;", "xxx;;oc #"},
		{nest, "lllxrrr", "lrx#"},
		{empty, "x;oxc;oc;x;", "x;oc#"},
		{strict, "aa a bb", "ab  "},
	} {
		for range 12 {
			pages := []*page{open(t, c.language, c.text)}
			var back api.Edit
			for range 30 {
				p := pages[len(pages)-1]
				x := back
				if len(pages) == 1 || r.Intn(3) > 0 {
					p = pages[len(pages)-1-r.Intn(min(3, len(pages)))]
					x = randomEdit(r, p.text.Len(), c.bytes)
				}
				back = api.Edit{At: x.At, Del: len(x.Ins), Ins: p.text.Bytes()[x.At : x.At+x.Del]}
				n, ahead, behind := p.edited(x)
				wantKept(t, p.root, n.root, ahead, behind)
				wantBytes(t, p, n)
				other := pages[r.Intn(len(pages))]
				for _, pair := range [][2]*tree.Node{{p.root, n.root}, {n.root, p.root}, {other.root, n.root}, {n.root, other.root}} {
					holds(t, p.store, pair[0], pair[1])
				}
				met[kindOf(p.root)+" to "+kindOf(n.root)]++
				pages = append(pages, n)
			}
		}
	}
	wantMet(t, met, 20, "right to right", "right to wrong", "right to broken", "wrong to right", "wrong to wrong", "wrong to broken", "broken to right", "broken to wrong", "broken to broken")
}

// randomEdit is an edit of a text of that length.
func randomEdit(r *rand.Rand, length int, bytes string) api.Edit {
	e := api.Edit{At: r.Intn(length + 1)}
	e.Del = min(r.Intn(3)*r.Intn(3), length-e.At)
	for range r.Intn(4) {
		e.Ins = append(e.Ins, bytes[r.Intn(len(bytes))])
	}
	return e
}

// kindOf is what kind of text a tree has.
func kindOf(n *tree.Node) string {
	switch {
	case n.Kind() == api.NBroken:
		return "broken"
	case n.Failed():
		return "wrong"
	}
	return "right"
}

// TestBelowTexts is P1501 to P1507 for nodes below the roots of two texts, of which the one was made out of the other: error nodes, nodes without leaves, leaves, end leaves.
func TestBelowTexts(t *testing.T) {
	for _, c := range []struct {
		language, text string
		e              api.Edit
	}{
		{ten, "1;2 3;4;", edit(2, 1, "5+6")},
		{ten, ";;1+;", edit(0, 1, "")},
		{empty, "x;oxc;;", edit(2, 0, "x;;")},
		{nest, "llxrr", edit(2, 1, "lxr")},
	} {
		p := open(t, c.language, c.text)
		n, _, _ := p.edited(c.e)
		for _, a := range p.root.Walk() {
			for _, b := range n.root.Walk() {
				holds(t, p.store, a, b)
			}
		}
	}
}

// TestDocumentsExample is example 9 of the document: `1;2;3;` becomes `1;2;45;`.
func TestDocumentsExample(t *testing.T) {
	p := open(t, ten, "1;2;3;")
	n, ahead, behind := p.edited(edit(4, 1, "45"))
	wantKept(t, p.root, n.root, ahead, behind)
	wantLeaves(t, "one number", p.root, n.root, []api.Hunk{{From: 3, To: 5, Into: 3, Upto: 5}}, []api.Span{{From: 3, To: 6}})
	kept, leaves := 0, 0
	for _, s := range delta.Script(p.root, n.root) {
		switch s.Do {
		case api.OKeep:
			kept++
		case api.OLeaf:
			leaves++
		}
	}
	if kept != 4 || leaves != 2 {
		t.Errorf("P1504: %d nodes are kept, %d leaves are new", kept, leaves)
	}
}

// TestWholeTextNew is P1501, P1502 and P1506 for texts that have nothing in common.
func TestWholeTextNew(t *testing.T) {
	p := open(t, ten, "1;2;")
	root, _, e := parse.Build(p.table, p.store, p.leaves)
	if e != api.OK {
		t.Fatal(e)
	}
	wantLeaves(t, "the same text anew", p.root, root, []api.Hunk{{To: 5, Upto: 5}}, []api.Span{{To: 4}})
	holds(t, p.store, p.root, root)
	if steps := delta.Script(p.root, root); len(steps) != root.Size() {
		t.Errorf("P1504: %d steps", len(steps))
	}
	n, _, _ := p.edited(edit(0, 4, strings.Repeat("7+", 3)+"7;"))
	holds(t, p.store, p.root, n.root)
}
