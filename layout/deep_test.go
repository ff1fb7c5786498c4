package layout_test

import (
	"strings"
	"testing"

	"graft/api"
	"graft/tree"
)

// TestDeepest is P1 for trees as deep as the longest texts are long.
func TestDeepest(t *testing.T) {
	t.Parallel()
	e := compiled(t, chain)
	s := e.Spec()
	const n = api.MaxText
	all := strings.Repeat("xy", n/2)
	v := opened(t, e, all)
	wantPrinted(t, "no gaps", laid(t, s, filled(s, api.GNone)), v, all)
	wantRefused(t, "blanks", laid(t, s, filled(s, api.GBlank)), v, api.ErrLong)
	spread := opened(t, e, strings.Repeat("x\ny ", n/4))
	wantPrinted(t, "trivia that go", laid(t, s, filled(s, api.GNone)), spread, all[:n/2])
	wantPrinted(t, "a blank behind each x", laid(t, s, spaced(s, gap{0, 1, api.GBlank})), spread, strings.Repeat("x y", n/4))
	wantSame(t, "deep", spread, opened(t, e, all[:n/2]), true)
	wantSame(t, "deep, the last byte unlike", v, opened(t, e, all[:n-1]+"x"), false)
	wantSame(t, "deep, a leaf less", v, opened(t, e, all[:n-1]), false)
	in := spaced(s, gap{0, 1, api.GIn})
	wantRefused(t, "deeper and deeper", laid(t, s, in), v, api.ErrLong)
	in.Indent = ""
	wantPrinted(t, "deeper and deeper, without bytes", laid(t, s, in), spread, strings.Repeat("x\ny", n/4))
}

// TestDeepKinds is P1 for long texts that grow on the left, in brackets, and that are wrong.
func TestDeepKinds(t *testing.T) {
	const n = api.MaxText - 8
	for _, c := range []struct {
		what, spec, text, want string
		gaps                   []gap
	}{
		{"on the left", ten, strings.Repeat("1 ;", n/3), strings.Repeat("1;\n", n/3-1) + "1;", []gap{{2, 2, api.GLine}}},
		{"in brackets", nest, strings.Repeat("l", n/4) + " x" + strings.Repeat(" r", n/4), strings.Repeat("l", n/4) + "x" + strings.Repeat("r ", n/4-1) + "r", []gap{{0, 3, api.GBlank}}},
		{"brackets that are never closed", nest, strings.Repeat("l ", n/2) + "x", strings.Repeat("l ", n/2) + "x", []gap{{0, 1, api.GBlank}}},
		{"one error node over all", ten, strings.Repeat("1 ", n/2) + "\n;", strings.Repeat("1 ", n/2-1) + "1;", nil},
		{"comments alone", noted, strings.Repeat("#\n", n/2), " " + strings.Repeat("#\n", n/2), nil},
		{"comments and pieces in turns", noted, strings.Repeat("1#\n;#\n", n/8), "1 #\n" + strings.Repeat("; #\n1 #\n", n/8-1) + "; #\n", nil},
	} {
		t.Run(c.what, func(t *testing.T) {
			t.Parallel()
			e := compiled(t, c.spec)
			s := e.Spec()
			wantPrinted(t, c.what, laid(t, s, spaced(s, c.gaps...)), opened(t, e, c.text), c.want)
		})
	}
}

// tall is a spec with a production of one symbol, for chains by hand.
func tall(t *testing.T) api.Spec {
	s := readSpec(t, noted)
	s.Productions = []api.Production{{Right: make([]api.Sym, 1)}, {Right: make([]api.Sym, 1)}, {}}
	return s
}

// chained hangs a node below so many others of a kind.
func chained(t *testing.T, s *tree.Store, n *tree.Node, kind, number, count int) *tree.Node {
	for range count {
		n = made(t, s, kind, number, n)
	}
	return n
}

// TestDepthAlone is P1 and P1702 for trees by hand that are far deeper than their texts are long.
func TestDepthAlone(t *testing.T) {
	t.Parallel()
	s := tall(t)
	store := tree.New()
	const count = 1 << 20
	const text = "1 2 #a\n3"
	leaves := leafNodes(t, store, s.Lex, text)
	one := chained(t, store, leaves[0], api.NInner, 0, count)
	two := chained(t, store, leaves[1], api.NError, 0, count)
	three := chained(t, store, leaves[2], api.NInner, 1, count)
	v := version{made(t, store, api.NRoot, 0, one, two, three, chained(t, store, leaves[3], api.NInner, 0, 9)), text}
	rules := api.Rules{Blank: " ", Line: "\n", Indent: "\t", Gaps: [][]int{{api.GIn, api.GIn}, {api.GNone, api.GNone}, {api.GNone}}}
	wantRefused(t, "too deep", laid(t, s, rules), v, api.ErrLong)
	rules.Gaps[0][0], rules.Gaps[0][1] = api.GIn, api.GOut
	wantPrinted(t, "in, and out again", laid(t, s, rules), v, "1\n2 #a\n3")
	rules.Gaps[0][0], rules.Gaps[0][1] = api.GOut, api.GIn
	wantRefused(t, "out at first, and in", laid(t, s, rules), v, api.ErrLong)
	rules.Indent = ""
	wantPrinted(t, "too deep, without bytes", laid(t, s, rules), v, "1\n2 #a\n3")
	rules.Indent, rules.Gaps[0], rules.Gaps[1] = "\t\t", []int{api.GIn, api.GOut}, []int{api.GIn, api.GNone}
	wantRefused(t, "a comment at a depth", laid(t, s, rules), v, api.ErrLong)
	rules.Gaps[0], rules.Gaps[1] = []int{api.GNone, api.GNone}, []int{api.GNone, api.GIn}
	wantPrinted(t, "a depth behind the last piece", laid(t, s, rules), v, "1 2 #a\n3")
	wantSame(t, "deep", v, v, true)
	wantSame(t, "deep, a byte unlike", v, version{v.root, "1 2 #a\n4"}, false)
	wantSame(t, "deep, one node more", v, version{made(t, store, api.NRoot, 0, one, made(t, store, api.NError, 0, two), three, leaves[3]), text}, false)
}

// TestDepthOfNothing is P1702 for very many nodes without leaves, of which some are one node at many places.
func TestDepthOfNothing(t *testing.T) {
	t.Parallel()
	s := tall(t)
	s.Productions = append(s.Productions, api.Production{Right: make([]api.Sym, 2)})
	store := tree.New()
	none := made(t, store, api.NInner, 2)
	for range 17 { // 1<<17 times the node without children
		none = made(t, store, api.NInner, 3, none, none)
	}
	const text = "1 2"
	leaves := leafNodes(t, store, s.Lex, text)
	v := version{made(t, store, api.NRoot, 0, leaves[0], none, leaves[1], leaves[2]), text}
	rules := api.Rules{Blank: " ", Line: "\n", Indent: " ", Gaps: [][]int{{1, 1}, {1, 1}, {api.GIn}, {1, 1, 1}}}
	wantPrinted(t, "each counts", laid(t, s, rules), v, "1\n"+strings.Repeat(" ", 1<<17)+"2")
	rules.Gaps[3] = []int{1, api.GOut, 1}
	wantPrinted(t, "each counts, in its order", laid(t, s, rules), v, "1\n 2")
	rules.Gaps[3] = []int{1, 1, api.GIn}
	wantRefused(t, "each counts, twice as many", laid(t, s, rules), v, api.ErrLong)
}

// TestWide is P1 for very many children of one node.
func TestWide(t *testing.T) {
	t.Parallel()
	s := readSpec(t, noted)
	store := tree.New()
	const count = api.MaxText / 4
	text := strings.Repeat("1 +\n", count)
	leaves := leafNodes(t, store, s.Lex, text)
	v := version{made(t, store, api.NRoot, 0, leaves...), text}
	want := strings.Repeat("1+", count)
	wantPrinted(t, "wide", laid(t, s, filled(s, api.GIn)), v, want)
	again := tree.New()
	wantSame(t, "wide", v, version{made(t, again, api.NRoot, 0, leafNodes(t, again, s.Lex, want)...), want}, true)
	wantSame(t, "wide, the first byte unlike", v, version{v.root, "2" + text[1:]}, false)
	wantSame(t, "wide, the last byte unlike", v, version{v.root, text[:len(text)-2] + "-\n"}, false)
	wide := api.Spec{Lex: s.Lex, Productions: []api.Production{{Right: make([]api.Sym, len(leaves))}}}
	rules := api.Rules{Blank: "\n", Gaps: [][]int{make([]int, len(leaves)+1)}}
	for i := range rules.Gaps[0] {
		rules.Gaps[0][i] = api.GNone + i%2 // a blank ahead of each second one
	}
	v = version{made(t, store, api.NRoot, 0, made(t, store, api.NInner, 0, leaves...)), text}
	wantPrinted(t, "wide, with gaps", laid(t, wide, rules), v, strings.Repeat("1\n+", count))
}

// TestManyLooks is P1: tokens that look far ahead are not looked for again and again.
func TestManyLooks(t *testing.T) {
	t.Parallel()
	e := compiled(t, `token x = /x/; token far = /(x|-|\n|<a>)+;/; skip note = /<a>/; skip s = /[\-\n]/; start L; L = L I | ; I = x | far;`)
	s := e.Spec()
	r := filled(s, api.GNone)
	r.Blank = "\n"
	const n = api.MaxText / 12
	wantPrinted(t, "far", laid(t, s, r), opened(t, e, strings.Repeat("x<a>\n-x", n)), strings.Repeat("x\n<a>\n-\nx", n))
}
