package layout_test

import (
	"strings"
	"testing"

	"graft/api"
	"graft/tree"
)

// wantEdits holds the edits of a version.
func wantEdits(t *testing.T, what string, s api.Spec, r api.Rules, v version, want ...api.Edit) {
	t.Helper()
	if got, e := laid(t, s, r).Edits(v.root, []byte(v.text)); e != api.OK || !sameEdits(got, want) {
		t.Errorf("P1704: %s: %q: %+v, %v, want %+v", what, v.text, got, e, want)
	}
}

// TestExamples are the chapter's examples 1 to 3.
func TestExamples(t *testing.T) {
	e := compiled(t, ten)
	s := e.Spec()
	l := laid(t, s, usual(s))
	wantPrinted(t, "example 1", l, opened(t, e, "1+2;3 ;"), "1 + 2;\n3;")
	wantEdits(t, "example 1", s, usual(s), opened(t, e, "1+2;3 ;"), edit(1, 0, " "), edit(2, 0, " "), edit(4, 0, "\n"), edit(5, 1, ""))
	wantPrinted(t, "example 1, printed", l, opened(t, e, "1 + 2;\n3;"), "1 + 2;\n3;")
	wantEdits(t, "example 1, printed", s, usual(s), opened(t, e, "1 + 2;\n3;"))
	wantPrinted(t, "example 2", l, opened(t, e, "1 2;"), "1 2;")
	wantPrinted(t, "example 2", l, opened(t, e, "1;#  ;"), "1;\n#;")
	wantRefused(t, "example 3", l, opened(t, e, "1"), api.ErrBroken)
	wantPrinted(t, "example 3", l, opened(t, e, ""), "")
}

// TestGlueExamples are the chapter's examples 4 and 5.
func TestGlueExamples(t *testing.T) {
	e := compiled(t, `token num = /[0-9]+/; skip ws = / +/; start S; S = num num;`)
	wantPrinted(t, "example 4", laid(t, e.Spec(), filled(e.Spec(), api.GNone)), opened(t, e, "1 2"), "1 2")
	wantPrinted(t, "example 4", laid(t, e.Spec(), filled(e.Spec(), api.GNone)), opened(t, e, "  1    2 "), "1 2")
	e = compiled(t, `token dots = /\.\.\./; token dot = /\./; skip ws = / +/; start S; S = dot dot dot | dots;`)
	wantRefused(t, "example 5", laid(t, e.Spec(), filled(e.Spec(), api.GNone)), opened(t, e, ". . ."), api.ErrGlue)
	wantPrinted(t, "example 5, with blanks", laid(t, e.Spec(), filled(e.Spec(), api.GBlank)), opened(t, e, ".  . ."), ". . .")
	wantPrinted(t, "example 5, dots", laid(t, e.Spec(), filled(e.Spec(), api.GNone)), opened(t, e, " ... "), "...")
}

// TestCommentExample is the chapter's example 6.
func TestCommentExample(t *testing.T) {
	e := compiled(t, noted)
	wantPrinted(t, "example 6", laid(t, e.Spec(), usual(e.Spec())), opened(t, e, "1 #x\n+2;"), "1 #x\n+ 2;")
}

// TestComments are cases of P1702 by hand: where comments stand, and what is of their bytes.
func TestComments(t *testing.T) {
	e := compiled(t, calls)
	s := e.Spec()
	r := spaced(s, gap{2, 4, api.GLine}, gap{3, 2, api.GLine}, gap{8, 2, api.GIn}, gap{8, 3, api.GOut}, gap{12, 2, api.GLine})
	for _, c := range []struct{ what, text, want string }{
		{"ahead of the first piece, without a blank", "#a\n1;", "#a\n1;"},
		{"several ahead of the first piece", "\n #a \n\n#b\t\r\n1;", "#a\n#b\n1;"},
		{"behind the last one", "1;#a", "1; #a\n"},
		{"several behind the last one", "1;#a\n#b\n\n", "1; #a\n#b\n"},
		{"without pieces", " #a\n#b", " #a\n#b\n"},
		{"between two", "1;#a\n2;", "1; #a\n2;"},
		{"several between two", "1 #a\n#b\n;2;", "1 #a\n#b\n;\n2;"},
		{"without bytes but blanks", "1;\n \t2;", "1;\n2;"},
		{"at a depth", "f(#a\n1,#b\n2#c\n);", "f( #a\n  1, #b\n  2 #c\n);"},
		{"several at a depth", "f(#a\n#b\n1);", "f( #a\n  #b\n  1\n);"},
		{"blanks at their end are no part of them, blanks within are", "1;#  a  b \t \n2;", "1; #  a  b\n2;"},
		{"behind the last one at no depth", "f(1) ; #a", "f(\n  1\n); #a\n"},
		{"in an error node they stay as they are", "( 2 #a  \n 3 #b \n) ;", "(2 #a  \n 3 #b\n);"},
		{"ahead of an error node", "1; #a \n 2 3;", "1; #a\n2 3;"},
		{"all that is left", "#a \n2 #b\n#c\n 3 #d\n ; #e", "#a\n2 #b\n#c\n 3 #d\n; #e\n"},
	} {
		wantPrinted(t, c.what, laid(t, s, r), opened(t, e, c.text), c.want)
	}
}

// TestTrimmed is P1702: a comment's bytes are the token's without those of 9, 10, 13, 32 at its begin and its end, whatever the token is.
func TestTrimmed(t *testing.T) {
	e := compiled(t, `token x = /x/; skip note = /[\t\r \n]*<[^>]*>[\t\r \n]*/; skip ws = /[\t\r \n]+/; skip odd = /[\x0b\x0c\x00\xa0]/; start L; L = L x | ;`)
	s := e.Spec()
	l := laid(t, s, filled(s, api.GNone))
	for _, c := range []struct{ text, want string }{
		{"x\t\r\n < a\n>\n\r \tx", "x < a\n>\nx"},
		{"x < >x", "x < >\nx"},
		{"\n<>\n<\t>\tx", "<>\n<\t>\nx"},
		{"x <a> <b>  <c>", "x <a>\n<b>\n<c>\n"},
		{"x\x0bx", "x \x0b\nx"}, {"x \x0c\x00 x", "x \x0c\n\x00\nx"}, {"\xa0", " \xa0\n"},
		{"\t\r\n x \t\r\nx\n\n", "xx"},
	} {
		wantPrinted(t, "trimmed", l, opened(t, e, c.text), c.want)
	}
}

// TestGaps are cases of P1702 by hand: what gaps ask for.
func TestGaps(t *testing.T) {
	e := compiled(t, `token a = /a/; token b = /b/; skip ws = /[ \n]+/; start S; S = a N M b T; N = ; M = N N; T = a | error b;`)
	s := e.Spec()
	const none, blank, line, in, out = api.GNone, api.GBlank, api.GLine, api.GIn, api.GOut
	for _, c := range []struct {
		what string
		gaps []gap
		want string
	}{
		{"none", nil, "aba"},
		{"a blank ahead of the second", []gap{{0, 3, blank}}, "a ba"},
		{"a blank ahead of a node without leaves", []gap{{0, 1, blank}}, "a ba"},
		{"a blank behind it", []gap{{0, 2, blank}}, "a ba"},
		{"one of the node without leaves", []gap{{1, 0, blank}}, "a ba"},
		{"one of the node above it, first", []gap{{2, 0, blank}}, "a ba"},
		{"one of it, within", []gap{{2, 1, blank}}, "a ba"},
		{"one of it, last", []gap{{2, 2, blank}}, "a ba"},
		{"a line counts more than a blank, in each order", []gap{{0, 1, line}, {0, 3, blank}}, "a\nba"},
		{"a line counts more than a blank, in each order", []gap{{0, 1, blank}, {0, 3, line}}, "a\nba"},
		{"in and a blank", []gap{{0, 1, in}, {0, 3, blank}}, "a\n  ba"},
		{"in, once for each", []gap{{0, 1, in}, {0, 2, in}, {0, 3, in}}, "a\n      ba"},
		{"one in a node that stands there three times", []gap{{1, 0, in}}, "a\n      ba"},
		{"in and out", []gap{{0, 1, in}, {0, 3, out}}, "a\nba"},
		{"out and in: not below 0", []gap{{0, 1, out}, {0, 3, in}}, "a\n  ba"},
		{"out alone", []gap{{0, 1, out}, {0, 2, out}}, "a\nba"},
		{"out, in, out", []gap{{0, 1, out}, {0, 2, in}, {0, 3, out}}, "a\nba"},
		{"in, and a line behind the next one", []gap{{0, 1, in}, {0, 4, line}}, "a\n  b\n  a"},
		{"in, and out behind the next one", []gap{{0, 1, in}, {0, 4, out}}, "a\n  b\na"},
		{"in, and a blank behind the next one", []gap{{0, 1, in}, {0, 4, blank}}, "a\n  b a"},
		{"ahead of the first piece the depth counts, and nothing is written", []gap{{0, 0, in}, {0, 1, line}}, "a\n  ba"},
		{"ahead of the first piece a line, out, a blank", []gap{{0, 0, line}, {0, 3, blank}}, "a ba"},
		{"ahead of the first piece a blank", []gap{{0, 0, blank}}, "aba"},
		{"ahead of the first piece out, and in behind it", []gap{{0, 0, out}, {0, 1, in}}, "a\n  ba"},
		{"behind the last piece nothing is written", []gap{{0, 5, in}, {3, 1, line}}, "aba"},
		{"ahead of a first child, below", []gap{{3, 0, line}}, "ab\na"},
		{"between and ahead of a first child", []gap{{0, 4, in}, {3, 0, in}}, "ab\n    a"},
	} {
		wantPrinted(t, c.what, laid(t, s, spaced(s, c.gaps...)), opened(t, e, " a\nb a \n"), c.want)
	}
	one := opened(t, e, " a b  a  a @ b ")
	wantPrinted(t, "an error node is a piece, and has no gaps within", laid(t, s, filled(s, line)), one, "a\nb\na  a @\nb")
	wantPrinted(t, "an error node is a piece: between its node's gaps", laid(t, s, spaced(s, gap{4, 0, in}, gap{4, 1, blank})), one, "ab\n  a  a @ b")
	wantPrinted(t, "an error node without leaves is none; what is ahead of it and behind it counts", laid(t, s, spaced(s, gap{4, 0, in}, gap{4, 1, in})), opened(t, e, "abb"), "ab\n    b")
}

// TestWords is P1702: Blank, Line and Indent as the rules have them, of no bytes too.
func TestWords(t *testing.T) {
	e := compiled(t, calls)
	s := e.Spec()
	text := opened(t, e, "a=f( #n\n1,2);")
	long := strings.Repeat("\t\n\r ", api.MaxName/4)
	for _, c := range []struct{ blank, line, indent string }{{" ", "\n", "  "}, {"\t", "\r\n", " \t"}, {"", "\n", ""}, {"\n", "\n", "\n"}, {long, long, long}} {
		r := spaced(s, gap{2, 1, api.GBlank}, gap{2, 2, api.GBlank}, gap{8, 2, api.GIn}, gap{8, 3, api.GOut}, gap{12, 2, api.GLine})
		r.Blank, r.Line, r.Indent = c.blank, c.line, c.indent
		want := "a" + c.blank + "=" + c.blank + "f(" + c.blank + "#n" + c.line + c.indent + "1," + c.line + c.indent + "2" + c.line + ");"
		wantPrinted(t, "words", laid(t, s, r), text, want)
	}
}

// TestRunTogether is P1702: a blank stands where two pieces would be other leaves, and nowhere else.
func TestRunTogether(t *testing.T) {
	e := compiled(t, words)
	s := e.Spec()
	l := laid(t, s, filled(s, api.GNone))
	for _, c := range []struct{ what, text, want string }{
		{"two words", "a b", "a b"},
		{"two words that are a keyword", "i f", "i f"},
		{"a number and a word", "1 .a", "1.a"},
		{"a number, a dot and a number: by twos they are what they are", "1 . .2", "1..2"},
		{"dots", "... ...", "......"},
		{"dots and a dot", "... .1", "....1"},
		{"words and numbers", "if a 1 b", "if a1b"},
		{"an error node of several leaves with trivia between", "2 3  if a", "2 3if a"},
		{"an error node and what runs together with its last leaf", "a @ a 2 if if x 3", "a@ a 2if if x3"},
	} {
		wantPrinted(t, c.what, l, opened(t, e, c.text), c.want)
	}
	wantRefused(t, "a number, a dot and a number are one number", l, opened(t, e, "1 . 2 ."), api.ErrGlue)
}

// TestGluedTrivia is P1702: two pieces run together too, if the one's bytes with the other's are trivia, or if the one is trivia of the other.
func TestGluedTrivia(t *testing.T) {
	e := compiled(t, `token lt = /</; token dash = /-/; token x = /x/; token long = /x<+x/; skip note = /<-[^\n]*/; skip ws = /[ \n]+/; start L; L = L I | ; I = lt | dash | x | long;`)
	s := e.Spec()
	l := laid(t, s, filled(s, api.GNone))
	wantPrinted(t, "trivia", l, opened(t, e, "< -"), "< -")
	wantPrinted(t, "no trivia", l, opened(t, e, "- <"), "-<")
	wantPrinted(t, "three", l, opened(t, e, "< - < - - <"), "< -< --<")
	wantPrinted(t, "a longer token's begin", l, opened(t, e, "x < <"), "x<<")
	wantRefused(t, "a longer token of three", l, opened(t, e, "x < x"), api.ErrGlue)
	wantPrinted(t, "a comment between, and no blank", l, opened(t, e, "x <-\nx"), "x <-\nx")
}

// TestErrorNodes are trees by hand with error nodes of all kinds.
func TestErrorNodes(t *testing.T) {
	s := readSpec(t, noted)
	r := filled(s, api.GLine)
	l := laid(t, s, r)
	store := tree.New()
	const text = " 1  2 #a\n +\n;  #b\n"
	leaves := leafNodes(t, store, s.Lex, text)
	one, two, plus, semi, end := leaves[0], leaves[1], leaves[2], leaves[3], leaves[4]
	node := func(kind, n int, kids ...*tree.Node) *tree.Node { return made(t, store, kind, n, kids...) }
	root := func(kids ...*tree.Node) version { return version{node(api.NRoot, 0, kids...), text} }
	bad := func(kids ...*tree.Node) *tree.Node { return node(api.NError, 0, kids...) }
	for _, c := range []struct {
		what string
		v    version
		want string
	}{
		{"no node but the root has gaps", root(one, two, plus, semi, end), "1 2 #a\n+; #b\n"},
		{"all within one", root(bad(one, two, plus, semi), end), "1  2 #a\n +\n; #b\n"},
		{"the end leaf within it too", root(bad(one, two, plus, semi, end)), "1  2 #a\n +\n; #b\n"},
		{"the end leaf alone", root(one, two, plus, semi, bad(end)), "1 2 #a\n+; #b\n"},
		{"the end leaf in one within another", root(one, two, bad(plus, bad(semi, bad(end)))), "1 2 #a\n+\n; #b\n"},
		{"two neighbours", root(bad(one, two), bad(plus, semi), end), "1  2 #a\n+\n; #b\n"},
		{"without leaves", root(bad(), one, bad(), two, bad(bad(), node(api.NInner, 1)), plus, semi, bad(), end, bad()), "1 2 #a\n+; #b\n"},
		{"with inner nodes within: they have no gaps", root(bad(node(api.NInner, 5, one), node(api.NInner, 0, two, plus)), semi, end), "1  2 #a\n +; #b\n"},
		{"without leaves, with inner nodes within: they have no gaps", root(one, bad(node(api.NInner, 1)), node(api.NInner, 7, bad()), two, plus, semi, end), "1 2 #a\n+; #b\n"},
		{"within inner nodes", root(node(api.NInner, 2, bad(one), bad(two, plus)), node(api.NInner, 0, semi, end)), "1\n2 #a\n +\n; #b\n"},
		{"within inner nodes, without leaves", root(node(api.NInner, 5, bad()), one, node(api.NInner, 5, bad()), two, plus, semi, end), "1\n2 #a\n+; #b\n"},
		{"the end leaf between inner nodes", root(node(api.NInner, 4, one, two, node(api.NInner, 4, plus, semi, end)), node(api.NInner, 1)), "1\n2 #a\n+\n; #b\n"},
		{"broken nodes and roots below are no error nodes, and have no gaps", root(node(api.NBroken, 0, one, two), node(api.NRoot, 0, plus), node(api.NBroken, 0, semi, end)), "1 2 #a\n+; #b\n"},
		{"another number of children, fewer and more", root(node(api.NInner, 2, one), node(api.NInner, 5, two, plus), node(api.NInner, 1, semi), end), "1 2 #a\n+; #b\n"},
		{"the place of no production", root(node(api.NInner, 7, one), node(api.NInner, 1<<40, two, plus), node(api.NInner, len(s.Productions), semi), end), "1 2 #a\n+; #b\n"},
		{"the last production", root(one, node(api.NInner, len(s.Productions)-1, two), plus, semi, end), "1\n2 #a\n+; #b\n"},
	} {
		wantPrinted(t, c.what, l, c.v, c.want)
		wantByWords(t, newModel(t, s, r), l, c.v)
	}
}

// TestNoPieces is P1702 of texts in which nothing stands but trivia.
func TestNoPieces(t *testing.T) {
	e := compiled(t, empty)
	s := e.Spec()
	for _, kind := range []int{api.GNone, api.GBlank, api.GLine, api.GIn, api.GOut} {
		l := laid(t, s, filled(s, kind))
		for text, want := range map[string]string{"": "", " ": "", "\n \n": "", "#": " #\n", "  # #\n\n ": " #\n#\n"} {
			wantPrinted(t, "no pieces", l, opened(t, e, text), want)
		}
	}
}
