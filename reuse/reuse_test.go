package reuse_test

import (
	"slices"
	"strings"
	"testing"

	"graft/api"
	"graft/parse"
	"graft/relex"
	"graft/reuse"
	"graft/rope"
	"graft/scan"
	"graft/tree"
)

// row makes leaves of signs: each sign of a text is a leaf of one byte, its place among signs the kind; a blank is trivia ahead of what follows, # a bad byte.
func row(signs, text string) (l []api.Leaf) {
	skip := 0
	for _, c := range text {
		k := strings.IndexRune(signs, c)
		switch c {
		case ' ':
			skip++
			continue
		case '#':
			k = api.KBad
		}
		l = append(l, api.Leaf{Kind: k, Skip: skip, Len: 1, Reach: skip + 2})
		skip = 0
	}
	return append(l, api.Leaf{Kind: api.KEnd, Skip: skip, Reach: skip + 1})
}

// shape tells a tree in short, with the nodes that are in an older tree too in angles: R root, B broken, X error node, of inner nodes the production's number, each with its children in brackets; leaves by their signs, # bad, $ end.
func shape(signs string, n, old *tree.Node) string {
	inOld := map[int]bool{}
	for _, r := range old.Rows() {
		inOld[r.Id] = true
	}
	return shapeOf(signs, n, inOld, false)
}

func shapeOf(signs string, n *tree.Node, inOld map[int]bool, below bool) string {
	var out string
	old := inOld[n.Number()]
	switch n.Kind() {
	case api.NLeaf:
		out = ("$#" + signs)[n.N()+2 : n.N()+3]
	case api.NInner:
		out = string(rune('0' + n.N()))
	default:
		out = []string{"X", "R", "B"}[n.Kind()-api.NError]
	}
	if n.Kind() != api.NLeaf {
		out += "("
		for i := range n.Count() {
			k, _ := n.Kid(i)
			out += shapeOf(signs, k, inOld, old)
		}
		out += ")"
	}
	if old && !below {
		out = "<" + out + ">"
	}
	return out
}

// down goes from a node to a child, its child, and so on.
func down(n *tree.Node, path ...int) *tree.Node {
	for _, i := range path {
		n, _ = n.Kid(i)
	}
	return n
}

// editor keeps a text with its leaves and its tree.
type editor struct {
	*bench
	scanner *scan.Scanner
	text    *rope.Rope
	leaves  []api.Leaf
	root    *tree.Node
}

func ropeOf(t *testing.T, text string) *rope.Rope {
	t.Helper()
	r, e := rope.New([]byte(text))
	if e != api.OK {
		t.Fatal(e)
	}
	return r
}

// open makes an editor of a text, with a store of its own.
func open(t *testing.T, spec, text string) *editor {
	t.Helper()
	s, f := scan.New(read(t, spec).Lex)
	if f != (api.Fault{}) {
		t.Fatal(f)
	}
	r := ropeOf(t, text)
	d := &editor{bench: newBench(made(t, spec)), scanner: s, text: r, leaves: s.Leaves(r)}
	d.root = d.first(t, d.leaves)
	return d
}

// edit edits the text; what the tree is then is held against all that must hold of it.
func (d *editor) edit(t *testing.T, at, del int, ins string) api.Count {
	t.Helper()
	text, e := d.text.Splice(at, del, []byte(ins))
	if e != api.OK {
		t.Fatal(e)
	}
	leaves, ahead, behind, e := relex.Relex(d.scanner, d.leaves, text, api.Edit{At: at, Del: del, Ins: []byte(ins)})
	if e != api.OK {
		t.Fatal(e)
	}
	root, count := d.next(t, d.root, leaves, ahead, behind)
	d.text, d.leaves, d.root = text, leaves, root
	return count
}

// TestFirstExample of the chapter, which is the ninth of the document.
func TestFirstExample(t *testing.T) {
	d := open(t, ten, "1;2;3;")
	old := d.root
	if c := d.edit(t, 4, 1, "45"); c != (api.Count{Kept: 12, Fresh: 9}) || d.root.Size() != 21 {
		t.Errorf("P1203: %v, %d rows", c, d.root.Size())
	}
	if got := shape("1+;", d.root, old); got != "R(0(0(<0(1()2(5(6(1));))>2(<5(6(1))>;))2(5(6(1))<;>))<$>)" {
		t.Errorf("P1202: %s", got)
	}
	if down(d.root, 0, 0, 0) != down(old, 0, 0, 0) {
		t.Error("P1202: L over the first statement is another node")
	}
}

// TestSecondExample of the chapter, with just the leaves kept that it names; and with the end leaf too, which such an edit keeps.
func TestSecondExample(t *testing.T) {
	b := newBench(made(t, ten))
	old := b.first(t, row("1+;", "1 1;"))
	n, c := b.next(t, old, row("1+;", "1 1;1;"), 2, 0)
	if got := shape("1+;", n, old); got != "R(0(0(1()3(<X(11)>;))2(5(6(1));))$)" || c != (api.Count{Kept: 3, Fresh: 12}) {
		t.Errorf("P1202: %s %v", got, c)
	}
	d := open(t, ten, "1 2;")
	old = d.root
	c = d.edit(t, 4, 0, "3;")
	if got := shape("1+;", d.root, old); got != "R(0(0(1()3(<X(11)>;))2(5(6(1));))<$>)" || c != (api.Count{Kept: 4, Fresh: 11}) {
		t.Errorf("P1202: %s %v", got, c)
	}
}

// TestThirdExample of the chapter.
func TestThirdExample(t *testing.T) {
	x, m := made(t, ten), tree.New()
	old, _, _ := parse.Build(x, m, row("1+;", "1;"))
	other := row("1+;", "1;")
	other[0].Len = 2
	for _, c := range []struct {
		leaves        []api.Leaf
		ahead, behind int
		count         api.Count
		e             api.Errno
	}{
		{row("1+;", "1;"), 3, 0, api.Count{Kept: 9}, api.OK},
		{row("1+;", "1;"), 1, 2, api.Count{Kept: 9}, api.OK},
		{row("1+;", "1;"), 0, 3, api.Count{Kept: 9}, api.OK},
		{row("1+;", "1;"), 0, 0, api.Count{Fresh: 9}, api.OK},
		{row("1+;", "1;"), 1, 3, api.Count{}, api.ErrFrom},
		{other, 1, 0, api.Count{}, api.ErrFrom},
	} {
		n, count, e := reuse.Parse(x, m, old, c.leaves, c.ahead, c.behind)
		if count != c.count || e != c.e || (n == old) != (count.Kept == 9) {
			t.Errorf("P1205: %d and %d: %v %v, not %v %v", c.ahead, c.behind, count, e, c.count, c.e)
		}
	}
}

// TestFourthExample of the chapter.
func TestFourthExample(t *testing.T) {
	d := open(t, "token a = /a/; token b = /b/; start S; S = a S b | ;", "abb")
	old := d.root
	c := d.edit(t, 0, 0, "a")
	if got := shape("ab", d.root, old); got != "R(0(a0(<a>1()<b>)<b>)<$>)" || c != (api.Count{Kept: 4, Fresh: 5}) {
		t.Errorf("P1202: %s %v", got, c)
	}
	again := d.root
	c = d.edit(t, 0, 1, "")
	if got := shape("ab", d.root, again); got != "B(<a><b><b><$>)" || c != (api.Count{Kept: 4, Fresh: 1}) {
		t.Errorf("P1202: %s %v", got, c)
	}
}

// TestTwoWays is the tenth example of the document: two ways to one text.
func TestTwoWays(t *testing.T) {
	a, b := open(t, ten, "1;"), open(t, ten, "2;")
	a.edit(t, 2, 0, "2;")
	b.edit(t, 0, 0, "1;")
	if !slices.Equal(bare(a.root), bare(b.root)) || !slices.Equal(a.leaves, b.leaves) {
		t.Errorf("P1201: %v and %v", bare(a.root), bare(b.root))
	}
}

// blocks has statements in blocks, and errors of two kinds.
const blocks = "token x = /x/; token semi = /;/; token o = /o/; token c = /c/; start B; B = B S | ; S = E semi | error semi; E = x | o E c | o error c;"

// TestNodes tells for many edits, written out, which nodes stay: the kept leaves are as many as they can be, if nothing else is said.
func TestNodes(t *testing.T) {
	nest := "token l = /l/; token r = /r/; token x = /x/; start S; S = l S r | x | error;"
	nothing := "token a = /a/; token b = /b/; token c = /c/; start S; S = A B C | S error; A = a | ; B = b | ; C = c D | error a; D = E E; E = ;"
	empties := "token x = /x/; token o = /o/; token c = /c/; token q = /q/; token d = /d/; start P; P = P S | ; S = o A x c | q B x c | o error d | q error d; A = N; B = M; N = ; M = ;"
	for _, c := range []struct{ what, spec, signs, old, now, want string }{
		{"a right statement ahead", ten, "1+;", "1;", "1;1+1;", "R(0(<0(1()2(5(6(1));))>2(4(5(6(1))+6(1));))<$>)"},
		{"a statement behind", ten, "1+;", "1+1;", "1;1+1;", "R(0(0(1()2(<5(6(1))>;))2(4(5(6(1))<+><6(1)>)<;>))<$>)"},
		{"an expression grows", ten, "1+;", "1+1;", "1+1+1;", "R(0(1()2(4(<4(5(6(1))+6(1))>+6(1))<;>))<$>)"},
		{"an error node stays", ten, "1+;", "1 1;", "1 1;1;", "R(0(<0(1()3(X(11);))>2(5(6(1));))<$>)"},
		{"an error node goes", ten, "1+;", "1#;", "1;", "R(0(1()2(5(6(<1>))<;>))<$>)"},
		{"an error node grows", ten, "1+;", "1#;", "1##;", "R(0(1()3(X(<1><#>#)<;>))<$>)"},
		{"an error node over nothing stays", ten, "1+;", ";", ";1;", "R(0(<0(1()3(X();))>2(5(6(1));))<$>)"},
		{"an error node over nothing, not below an old one", ten, "1+;", "1;", ";", "R(0(1()3(X()<;>))<$>)"},
		{"a subtree below an error node stays", ten, "1+;", "1+1;", "1+1+;", "R(0(1()3(X(<4(5(6(1))+6(1))>+)<;>))<$>)"},
		{"broken, and broken again", ten, "1+;", "1", "1 1", "B(<1>1<$>)"},
		{"broken to whole", ten, "1+;", "1", "1;", "R(0(1()2(5(6(<1>));))<$>)"},
		{"whole to broken", ten, "1+;", "1;", "1;1", "B(<1><;>1<$>)"},
		{"nothing left", ten, "1+;", "1;1;", "", "R(1()<$>)"},
		{"out of nothing", ten, "1+;", "", "1;", "R(0(1()2(5(6(1));))<$>)"},
		{"a nest within", nest, "lrx", "llxrr", "llrrr", "R(0(<l>2(X(0(<l>2(X())r)<r>))<r>)<$>)"},
		{"a nest around", nest, "lrx", "lxr", "llxrr", "R(0(<l>0(l1(x)r)<r>)<$>)"},
		{"the error that takes all", nest, "lrx", "lxr", "lxrx", "R(2(X(<l><1(x)><r>x))<$>)"},
		{"an error in a block", blocks, "x;oc", "oxc;", "oxxc;", "R(0(1()2(6(<o>X(<x>x)<c>)<;>))<$>)"},
		{"the leaf that helps is taken away", blocks, "x;oc", "oxxc;", "oxx;", "R(0(1()3(X(<o><x><x>)<;>))<$>)"},
		{"nodes over nothing below an old one stay", nothing, "abc", "abc", "abc#", "R(1(<0(2(a)4(b)6(c8(9()9())))>X(#))<$>)"},
		{"nodes over nothing below a new one are new", nothing, "abc", "ac", "bc", "R(0(3()4(b)<6(c8(9()9()))>)<$>)"},
		{"an error node with others over nothing in it", empties, "xocqd", "oxd", "qxd", "R(0(1()5(qX(7(9())<x>)<d>))<$>)"},
		{"an error node with the same over nothing in it", empties, "xocqd", "oxd", "oxdoxd", "R(0(<0(1()4(oX(6(8())x)d))>4(oX(6(8())x)d))<$>)"},
	} {
		b := newBench(made(t, c.spec))
		old := b.first(t, row(c.signs, c.old))
		now := row(c.signs, c.now)
		ahead, behind := most(leavesOf(old), now)
		n, _ := b.next(t, old, now, ahead, behind)
		if got := shape(c.signs, n, old); got != c.want {
			t.Errorf("P1202: %s, %d and %d: %s, not %s", c.what, ahead, behind, got, c.want)
		}
	}
}

// TestPlaces: which of equal leaves are kept is said by their places alone.
func TestPlaces(t *testing.T) {
	b := newBench(made(t, ten))
	old := b.first(t, row("1+;", "1;1;"))
	for _, c := range []struct {
		ahead, behind int
		want          string
	}{
		{0, 5, "R(0(0(0(1()2(5(6(1));))<2(5(6(1));)>)<2(5(6(1));)>)<$>)"},
		{2, 3, "R(0(0(<0(1()2(5(6(1));))>2(5(6(1));))<2(5(6(1));)>)<$>)"},
		{3, 2, "R(0(0(<0(1()2(5(6(1));))>2(<5(6(1))>;))2(5(6(1))<;>))<$>)"},
		{4, 1, "R(0(<0(0(1()2(5(6(1));))2(5(6(1));))>2(5(6(1));))<$>)"},
		{4, 0, "R(0(<0(0(1()2(5(6(1));))2(5(6(1));))>2(5(6(1));))$)"},
		{1, 0, "R(0(0(0(1()2(<5(6(1))>;))2(5(6(1));))2(5(6(1));))$)"},
		{0, 2, "R(0(0(0(1()2(5(6(1));))2(5(6(1));))2(5(6(1))<;>))<$>)"},
		{0, 0, "R(0(0(0(1()2(5(6(1));))2(5(6(1));))2(5(6(1));))$)"},
	} {
		n, _ := b.next(t, old, row("1+;", "1;1;1;"), c.ahead, c.behind)
		if got := shape("1+;", n, old); got != c.want {
			t.Errorf("P1202: %d and %d: %s, not %s", c.ahead, c.behind, got, c.want)
		}
	}
}
