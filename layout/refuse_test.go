package layout_test

import (
	"strings"
	"testing"

	"graft/api"
	"graft/tree"
)

// TestRefused is P1703 and P1704: each error alone, and two at once in their order.
func TestRefused(t *testing.T) {
	e := compiled(t, ten)
	s := e.Spec()
	l := laid(t, s, usual(s))
	right, broken := opened(t, e, " 1+2; "), opened(t, e, " 1+2 ")
	kid, _ := right.root.Kid(0)
	leaf, _ := right.root.Kid(1)
	store := tree.New()
	bad := made(t, store, api.NError, 0, leafNodes(t, store, s.Lex, right.text)...)
	huge := strings.Repeat(" ", api.MaxText+1)
	wide := wideRoot(t, s, api.NRoot, huge)
	for _, c := range []struct {
		what string
		root *tree.Node
		text string
		want api.Errno
	}{
		{"too long for all texts", right.root, huge, api.ErrLong},
		{"too long, though as long as the tree", wide.root, wide.text, api.ErrLong},
		{"too long, and no root", kid, huge, api.ErrLong},
		{"too long, and broken", broken.root, huge, api.ErrLong},
		{"too long, broken, as long as the tree", wideRoot(t, s, api.NBroken, huge).root, huge, api.ErrLong},
		{"MaxText bytes, not the tree's", right.root, huge[1:], api.ErrArg},
		{"no root: an inner node", kid, right.text[:5], api.ErrArg},
		{"no root: an inner node, and another length", kid, right.text, api.ErrArg},
		{"no root: a leaf", leaf, " ", api.ErrArg},
		{"no root: an error node", bad, right.text, api.ErrArg},
		{"no root, and other leaves", kid, "+++++", api.ErrArg},
		{"too short", right.root, right.text[:5], api.ErrArg},
		{"too long for the tree", right.root, right.text + " ", api.ErrArg},
		{"of no bytes", right.root, "", api.ErrArg},
		{"broken, too short", broken.root, broken.text[1:], api.ErrArg},
		{"broken, too long", broken.root, broken.text + "\n", api.ErrArg},
		{"broken, of no bytes", broken.root, "", api.ErrArg},
		{"broken", broken.root, broken.text, api.ErrBroken},
		{"broken, and other leaves", broken.root, "++++;", api.ErrBroken},
		{"another kind", right.root, " 1;2; ", api.ErrLeaves},
		{"another Skip", right.root, "1 +2; ", api.ErrLeaves},
		{"another Len", right.root, "11+2; ", api.ErrLeaves},
		{"bad leaves", right.root, " 1@2; ", api.ErrLeaves},
		{"fewer leaves", right.root, " 1111 ", api.ErrLeaves},
		{"more leaves", right.root, "1+2;+;", api.ErrLeaves},
		{"another Skip of the end leaf", right.root, "1+2;  ", api.ErrLeaves},
	} {
		wantRefused(t, c.what, l, version{c.root, c.text}, c.want)
	}
	wantPrinted(t, "other bytes of the same leaves", l, version{right.root, "\n3+4;\n"}, "3 + 4;")
}

// wideRoot is a root over the end leaf alone, of trivia.
func wideRoot(t *testing.T, s api.Spec, kind int, text string) version {
	t.Helper()
	store := tree.New()
	half := store.Leaf(api.Leaf{Kind: 0, Skip: len(text) / 2})
	rest := store.Leaf(api.Leaf{Kind: api.KEnd, Skip: len(text) - len(text)/2})
	return version{made(t, store, kind, 0, half, rest), text}
}

// TestRefusedByHand is P1703: leaves that are not the text's, in trees by hand.
func TestRefusedByHand(t *testing.T) {
	s := readSpec(t, ten)
	l := laid(t, s, usual(s))
	const text = "1 ;2;"
	num, semi, other, last, end := api.Leaf{Kind: 0, Len: 1}, api.Leaf{Kind: 2, Skip: 1, Len: 1}, api.Leaf{Kind: 0, Len: 1}, api.Leaf{Kind: 2, Len: 1}, api.Leaf{Kind: api.KEnd}
	root := func(leaves ...api.Leaf) version {
		store := tree.New()
		var kids []*tree.Node
		for _, x := range leaves {
			kids = append(kids, store.Leaf(x))
		}
		return version{made(t, store, api.NRoot, 0, kids...), text}
	}
	wantPrinted(t, "right, whatever they have looked at", l, root(num, semi, api.Leaf{Len: 1, Reach: -9}, api.Leaf{Kind: 2, Len: 1, Reach: 1 << 40}, end), "1;2;")
	for _, leaves := range [][]api.Leaf{
		{num, semi, other, last},
		{num, semi, other, last, end, end},
		{num, semi, other, last, end, {Kind: api.KEnd, Skip: -1, Len: -1}},
		{end, num, semi, other, last},
		{num, semi, other, last, {Kind: api.KEnd, Skip: -1}},
		{num, semi, other, last, {Kind: api.KEnd, Skip: api.MaxText + 1}},
		{num, semi, other, last, {Kind: api.KBad}},
		{num, semi, other, last, {Kind: 0}, end},
		{{Kind: api.KBad, Len: 1}, semi, other, last, end},
		{num, {Kind: 3, Len: 1}, {Kind: 2, Len: 1}, other, last, end},
		{num, {Kind: 2, Skip: 1, Len: 2}, last, end},
		{semi, num, other, last, end},
	} {
		wantRefused(t, short(leaves), l, root(leaves...), api.ErrLeaves)
	}
	store := tree.New()
	wantRefused(t, "no leaves", l, version{made(t, store, api.NRoot, 0), ""}, api.ErrLeaves)
	wantRefused(t, "no leaves, a text", l, version{made(t, store, api.NRoot, 0), "1"}, api.ErrArg)
	wantRefused(t, "no leaves, broken", l, version{made(t, store, api.NBroken, 0), ""}, api.ErrBroken)
	wantPrinted(t, "the end leaf alone", l, version{made(t, store, api.NRoot, 0, store.Leaf(end)), ""}, "")
}

// TestLongest is P1703: a printed text of MaxText bytes, and of one more.
func TestLongest(t *testing.T) {
	e := compiled(t, chain)
	s := e.Spec()
	const n = api.MaxText / 2
	r := spaced(s, gap{0, 1, api.GBlank}, gap{1, 1, api.GBlank})
	for _, c := range []struct {
		what, text, blank string
		want              int // -1: too long
	}{
		{"as it is", strings.Repeat("x", api.MaxText), "", api.MaxText},
		{"MaxText and one less", strings.Repeat("x", n), " ", api.MaxText - 1},
		{"one more", strings.Repeat("x", n+1), " ", -1},
		{"very many more", strings.Repeat("x", api.MaxText), strings.Repeat("\n", 64), -1},
		{"much trivia that is not printed", strings.Repeat("x ", n), " ", api.MaxText - 1},
	} {
		r.Blank = c.blank
		l, v := laid(t, s, r), opened(t, e, c.text)
		if c.want < 0 {
			wantRefused(t, c.what, l, v, api.ErrLong)
			continue
		}
		if got, err := l.Print(v.root, []byte(v.text)); len(got) != c.want || err != api.OK {
			t.Errorf("P1703: %s: %d bytes, %v", c.what, len(got), err)
		}
	}
	wantLongAtEnd(t)
}

// wantLongAtEnd is P1703 where what stands behind the last piece makes a text of MaxText bytes, of one less and of one more: by a comment.
func wantLongAtEnd(t *testing.T) {
	t.Helper()
	e := compiled(t, noted)
	s := e.Spec()
	l := laid(t, s, usual(s))
	for _, c := range []struct {
		name             string
		ahead, behind    string
		wantHead, wantIn string
	}{
		{"first", "#", "\n1;", "#", "\n1;"},
		{"last", "1;#", "", "1; #", "\n"},
		{"between", "1+#", "\n2;", "1 + #", "\n2;"},
		{"no piece", "#", "", " #", "\n"},
	} {
		for _, length := range []int{api.MaxText - 1, api.MaxText, api.MaxText + 1, api.MaxText + 2} {
			stars := strings.Repeat("*", length-len(c.wantHead)-len(c.wantIn))
			text := c.ahead + stars + c.behind
			if len(text) > api.MaxText {
				continue
			}
			v := opened(t, e, text)
			if length > api.MaxText {
				wantRefused(t, c.name, l, v, api.ErrLong)
			} else {
				wantPrinted(t, c.name, l, v, c.wantHead+stars+c.wantIn)
			}
		}
	}
}

// TestLongAheadOfGlue is P1703: a text that is too long is told as such, though it would not hold.
func TestLongAheadOfGlue(t *testing.T) {
	e := compiled(t, `token dots = /\.\.\./; token dot = /\./; token x = /x/; skip ws = / +/; start L; L = L I | ; I = dot | dots | x dot;`)
	s := e.Spec()
	r := spaced(s, gap{4, 1, api.GBlank})
	r.Blank = strings.Repeat(" ", api.MaxName)
	l := laid(t, s, r)
	wantRefused(t, "it does not hold", l, opened(t, e, ". . ."), api.ErrGlue)
	wantRefused(t, "it is too long, and would not hold", l, opened(t, e, ". . ."+strings.Repeat("x.", api.MaxText/10)), api.ErrLong)
}

// TestGlue is P1703: ErrGlue in each of its ways.
func TestGlue(t *testing.T) {
	for _, c := range []struct {
		what, spec          string
		blank, line, indent string
		kind                int
		text                string
	}{
		{"three leaves are one", `token dots = /\.\.\./; token dot = /\./; skip w = / +/; start S; S = dot dot dot | dots;`, " ", "\n", " ", api.GNone, ". . ."},
		{"a blank of no bytes", `token num = /[0-9]+/; skip w = / +/; start S; S = num num;`, "", "\n", " ", api.GNone, "1 2"},
		{"other bytes of as many leaves", `token w = /[a-z]|[a-z][a-z]/; skip s = / +/; start S; S = w w;`, "", "\n", " ", api.GNone, "a bc"},
		{"another kind of as many leaves", `token a = /a/; token ab = /ab/; token b = /b/; token c = /c|bc/; skip s = / +/; start S; S = a c | ab c | a b;`, "", "\n", " ", api.GNone, "a bc"},
		{"the blank is a leaf", `token x = /x/; token t = /\t/; skip s = / +/; start S; S = x x | x t x;`, "\t", "\n", " ", api.GBlank, "xx"},
		{"the line's end is bad", `token x = /x/; skip s = / +/; start S; S = x x;`, " ", "\n", " ", api.GLine, "xx"},
		{"the indent is bad", `token x = /x/; skip s = /[ \n]+/; start S; S = x x;`, " ", "\n", "\t", api.GIn, "xx"},
		{"a comment takes the next leaf", noted, " ", " ", "", api.GNone, "1 #x\n+2;"},
		{"a comment takes the next leaf, of no line's end", noted, " ", "", "", api.GNone, "1 #x\n+2;"},
		{"a comment ahead of the first piece takes it", noted, " ", "", "", api.GNone, "#a\n1;"},
		{"a comment without its blanks is leaves", `token x = /x/; token h = /#/; skip n = /\n#x/; skip s = /[ \n]/; start L; L = L I | ; I = x | h;`, " ", "\n", "", api.GNone, "x\n#xx"},
		{"a comment behind the last piece is leaves", `token x = /x/; token h = /#/; skip n = /\n#x/; skip s = /[ \n]/; start L; L = L I | ; I = x | h;`, " ", "\n", "", api.GNone, "x\n#x"},
		{"a comment without its blanks is bad", `token x = /x/; skip n = /\n#/; skip s = /[ \n]/; start L; L = L x | ;`, " ", "\n", "", api.GNone, "x\n#x"},
		{"a comment becomes two", fragile, " ", "\n", "", api.GNone, "x\n##x"},
		{"a comment becomes two, ahead of the first piece", fragile, " ", "\n", "", api.GNone, "\n##x"},
		{"a comment becomes two, behind the last piece", fragile, " ", "\n", "", api.GNone, "x\n##"},
		{"a comment becomes two, without pieces", fragile, " ", "\n", "", api.GNone, "\n##"},
		{"an error node's first leaf goes into the leaves ahead", `token a = /a/; token b = /b/; token aab = /aab/; token s = /;/; skip w = / +/; start L; L = L I | ; I = a a | aab | b s | error s;`, " ", "\n", "", api.GNone, "aa b a;"},
	} {
		e := compiled(t, c.spec)
		s := e.Spec()
		r := filled(s, c.kind)
		r.Blank, r.Line, r.Indent = c.blank, c.line, c.indent
		v := opened(t, e, c.text)
		if v.root.Kind() != api.NRoot {
			t.Errorf("%s: %q has no tree", c.what, c.text)
		}
		wantRefused(t, c.what, laid(t, s, r), v, api.ErrGlue)
		if _, _, err := newModel(t, s, r).laidOut(v); err != api.ErrGlue {
			t.Errorf("%s: the model says %v", c.what, err)
		}
	}
}

// TestGlueWithinErrors is P1703: the trivia between the leaves of an error node must stay; outside of one they need not.
func TestGlueWithinErrors(t *testing.T) {
	s := readSpec(t, `token a = /a/; token n = /\n/; skip two = /\n\n/; start S; S = a n a;`)
	r := api.Rules{Line: "\n\n", Gaps: [][]int{{api.GNone, api.GNone, api.GLine, api.GNone}}}
	l := laid(t, s, r)
	store := tree.New()
	const text = "a\na" // in what is written, a line's end and two more, the first two are trivia
	leaves := leafNodes(t, store, s.Lex, text)
	free := made(t, store, api.NInner, 0, leaves[0], leaves[1], leaves[2])
	wantPrinted(t, "outside", l, version{made(t, store, api.NRoot, 0, free, leaves[3]), text}, "a\n\n\na")
	s.Productions[0].Right = s.Productions[0].Right[:2]
	r.Gaps[0] = []int{api.GNone, api.GLine, api.GNone}
	wrong := made(t, store, api.NInner, 0, made(t, store, api.NError, 0, leaves[0], leaves[1]), leaves[2])
	wantRefused(t, "within", laid(t, s, r), version{made(t, store, api.NRoot, 0, wrong, leaves[3]), text}, api.ErrGlue)
}
