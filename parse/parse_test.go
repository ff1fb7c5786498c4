package parse_test

import (
	"math"
	"slices"
	"strings"
	"testing"

	"graft/api"
	"graft/parse"
	"graft/spec"
	"graft/states"
	"graft/table"
	"graft/tree"
)

const ten = `token num = /[0-9]+/; token plus = /\+/; token semi = /;/; skip ws = / +/; start L; L = L S | ; S = E semi | error semi; E = E plus T | T; T = num;`

func read(t testing.TB, text string) api.Spec {
	t.Helper()
	s, f := spec.Parse(text)
	if f != (api.Fault{}) {
		t.Fatalf("%s: %+v", text, f)
	}
	return s
}

// tableOf is a spec's table; nil, if it has conflicts.
func tableOf(t testing.TB, s api.Spec) *table.Table {
	t.Helper()
	a, f := states.Build(s)
	if a == nil || f != (api.Fault{}) {
		t.Fatalf("%+v of %+v", f, s)
	}
	x, _ := table.Make(a)
	return x
}

func made(t testing.TB, text string) *table.Table {
	t.Helper()
	x := tableOf(t, read(t, text))
	if x == nil {
		t.Fatalf("conflicts: %s", text)
	}
	return x
}

// row makes leaves of signs: each sign of a text is a leaf of one byte, its place among signs the kind; a blank is trivia ahead of what follows, # a bad byte.
func row(signs, text string) (l []api.Leaf) {
	skip := 0
	for _, c := range text {
		k := strings.IndexRune(signs, c)
		switch c {
		case ' ':
			skip++
			continue
		case '#':
			k = api.KBad
		}
		l = append(l, api.Leaf{Kind: k, Skip: skip, Len: 1, Reach: skip + 2})
		skip = 0
	}
	return append(l, api.Leaf{Kind: api.KEnd, Skip: skip, Reach: skip + 1})
}

// nodes makes leaves' nodes.
func nodes(m *tree.Store, leaves []api.Leaf) (l []*tree.Node) {
	for _, x := range leaves {
		l = append(l, m.Leaf(x))
	}
	return l
}

// shape tells a tree in short: R root, B broken, X error node, of inner nodes the production's number, each with its children in brackets; leaves by their signs, # bad, $ end.
func shape(signs string, n *tree.Node) string {
	if n == nil {
		return "none"
	}
	var out string
	switch n.Kind() {
	case api.NLeaf:
		return ("$#" + signs)[n.N()+2 : n.N()+3]
	case api.NInner:
		out = string(rune('0' + n.N()))
	default:
		out = []string{"X", "R", "B"}[n.Kind()-api.NError]
	}
	out += "("
	for i := range n.Count() {
		k, _ := n.Kid(i)
		out += shape(signs, k)
	}
	return out + ")"
}

// wantTree holds Build of a text against a shape and mishaps.
func wantTree(t *testing.T, x *table.Table, signs, text, want string, mishaps ...api.Mishap) {
	t.Helper()
	n, l, e := parse.Build(x, tree.New(), row(signs, text))
	if e != api.OK || shape(signs, n) != want {
		t.Errorf("P13: %q: %s %v, not %s", text, shape(signs, n), e, want)
	}
	if !slices.Equal(l, mishaps) {
		t.Errorf("P1101: %q: %v, not %v", text, l, mishaps)
	}
}

// TestExamples: the first one of the chapter, and those of DOC.md that are texts.
func TestExamples(t *testing.T) {
	x := made(t, ten)
	wantTree(t, x, "1+;", "1;", "R(0(1()2(5(6(1));))$)")
	wantTree(t, x, "1+;", "", "R(1()$)")
	wantTree(t, x, "1+;", "1 + 1 ;", "R(0(1()2(4(5(6(1))+6(1));))$)")
	wantTree(t, x, "1+;", "1 1;", "R(0(1()3(X(11);))$)", api.Mishap{Leaf: 1, Keep: 1, On: 2})
	wantTree(t, x, "1+;", "1+;", "R(0(1()3(X(5(6(1))+);))$)", api.Mishap{Leaf: 2, Keep: 1, On: 2})
	wantTree(t, x, "1+;", ";", "R(0(1()3(X();))$)", api.Mishap{Leaf: 0, Keep: 0, On: 0})
	wantTree(t, x, "1+;", "1", "B(1$)", api.Mishap{Leaf: 1, Keep: 0, On: -1})
	wantTree(t, x, "1+;", "1;#;1;", "R(0(0(0(1()2(5(6(1));))3(X(#);))2(5(6(1));))$)", api.Mishap{Leaf: 2, Keep: 3, On: 3})
}

// TestErrorsWithin: several errors of one text, error nodes within error nodes, an error at the end leaf that is mended, and at last one that is not.
func TestErrorsWithin(t *testing.T) {
	x := made(t, ten)
	wantTree(t, x, "1+;", "+;;1 1;", "R(0(0(0(1()3(X(+);))3(X();))3(X(11);))$)",
		api.Mishap{Leaf: 0, Keep: 0, On: 1}, api.Mishap{Leaf: 2, Keep: 3, On: 2}, api.Mishap{Leaf: 4, Keep: 1, On: 5})
	wantTree(t, x, "1+;", ";1+", "B(;1+$)", api.Mishap{Leaf: 0, Keep: 0, On: 0}, api.Mishap{Leaf: 3, Keep: 0, On: -1})
	y := made(t, "token o = /o/; token c = /c/; token x = /x/; start S; S = o A c | error; A = A x | A S | ;")
	wantTree(t, y, "ocx", "oo#xc", "R(1(X(o4()o2(3(4()1(X(#)))x)c))$)", api.Mishap{Leaf: 2, Keep: 3, On: 3}, api.Mishap{Leaf: 5, Keep: 0, On: 5})
	z := made(t, "token l = /l/; token r = /r/; token x = /x/; start S; S = l S r | x | error;")
	wantTree(t, z, "lrx", "", "R(2(X())$)", api.Mishap{Leaf: 0, Keep: 0, On: 0})
	wantTree(t, z, "lrx", "l", "R(2(X(l))$)", api.Mishap{Leaf: 1, Keep: 0, On: 1})
	wantTree(t, z, "lrx", "lxx", "R(2(X(lxx))$)", api.Mishap{Leaf: 2, Keep: 0, On: 3})
	wantTree(t, z, "lrx", "lxxr", "R(0(l2(X(xx))r)$)", api.Mishap{Leaf: 2, Keep: 1, On: 3})
	wantTree(t, z, "lrx", "xl", "R(2(X(xl))$)", api.Mishap{Leaf: 1, Keep: 0, On: 2})
}

// TestFarAway is P13: the greatest number of trees counts, however far away the leaf at which it goes on.
func TestFarAway(t *testing.T) {
	x := made(t, "token x = /x/; token semi = /;/; token o = /o/; token c = /c/; start B; B = B S | ; S = E semi | error semi; E = x | o E c | o error c;")
	wantTree(t, x, "x;oc", "ox;x;", "R(0(0(1()3(X(ox);))2(4(x);))$)", api.Mishap{Leaf: 2, Keep: 1, On: 2})
	wantTree(t, x, "x;oc", "ox;x;x;c;", "R(0(1()2(6(oX(x;x;x;)c);))$)", api.Mishap{Leaf: 2, Keep: 2, On: 7})
}

// TestWithoutError: a grammar without error productions has broken trees alone, but for right texts.
func TestWithoutError(t *testing.T) {
	x := made(t, "token a = /a/; token b = /b/; start S; S = a S b | ;")
	wantTree(t, x, "ab", "", "R(1()$)")
	wantTree(t, x, "ab", "aabb", "R(0(a0(a1()b)b)$)")
	wantTree(t, x, "ab", "aab", "B(aab$)", api.Mishap{Leaf: 3, Keep: 0, On: -1})
	wantTree(t, x, "ab", "ba", "B(ba$)", api.Mishap{Leaf: 0, Keep: 0, On: -1})
	wantTree(t, x, "ab", "a#b", "B(a#b$)", api.Mishap{Leaf: 1, Keep: 0, On: -1})
}

// TestWrongLeaves is P1101: lists that are no rows of leaves, or too long, and the order of what is wrong with them.
func TestWrongLeaves(t *testing.T) {
	x := made(t, ten)
	end := api.Leaf{Kind: api.KEnd}
	for _, c := range []struct {
		what string
		l    []api.Leaf
		e    api.Errno
	}{
		{"none", nil, api.ErrLeaf},
		{"none, with room", make([]api.Leaf, 0, 5), api.ErrLeaf},
		{"the end alone", []api.Leaf{end}, api.OK},
		{"no end", []api.Leaf{{Len: 1}}, api.ErrLeaf},
		{"two ends", []api.Leaf{end, end}, api.ErrLeaf},
		{"an end within", []api.Leaf{{Len: 1}, end, {Kind: 2, Len: 1}, end}, api.ErrLeaf},
		{"behind the end", []api.Leaf{end, {Len: 1}}, api.ErrLeaf},
		{"a negative Skip", []api.Leaf{{Skip: -1, Len: 2}, end}, api.ErrLeaf},
		{"a negative Len", []api.Leaf{{Skip: 2, Len: -1}, end}, api.ErrLeaf},
		{"a negative Skip of the end", []api.Leaf{{Kind: api.KEnd, Skip: -1}}, api.ErrLeaf},
		{"a negative Len of the end", []api.Leaf{{Kind: api.KEnd, Len: math.MinInt}}, api.ErrLeaf},
		{"bytes in the end", []api.Leaf{{Kind: api.KEnd, Skip: 3, Len: 4}}, api.OK},
		{"any Reach", []api.Leaf{{Len: 1, Reach: -7}, {Kind: 2, Reach: math.MaxInt}, {Kind: api.KEnd, Reach: math.MinInt}}, api.OK},
		{"trivia", []api.Leaf{{Kind: 3, Len: 1}, end}, api.ErrLeaf},
		{"the number of error", []api.Leaf{{Kind: 4, Len: 1}, end}, api.ErrLeaf},
		{"the number of end", []api.Leaf{{Kind: 5, Len: 1}, end}, api.ErrLeaf},
		{"a great kind", []api.Leaf{{Kind: math.MaxInt}, end}, api.ErrLeaf},
		{"a kind below all", []api.Leaf{{Kind: -3}, end}, api.ErrLeaf},
		{"a bad kind far behind an error", append([]api.Leaf{{Kind: 2}, {Kind: 1}, {Kind: 9}}, end), api.ErrLeaf},
		{"as many bytes as may be", []api.Leaf{{Skip: 1, Len: api.MaxText - 3}, {Kind: 2, Len: 1}, {Kind: api.KEnd, Skip: 1}}, api.OK},
		{"a byte more", []api.Leaf{{Skip: 1, Len: api.MaxText - 3}, {Kind: 2, Len: 1}, {Kind: api.KEnd, Skip: 2}}, api.ErrLeaf},
		{"a byte more in the end", []api.Leaf{{Skip: 1, Len: api.MaxText - 3}, {Kind: 2, Len: 1}, {Kind: api.KEnd, Skip: 1, Len: 1}}, api.ErrLeaf},
		{"sums that wrap round", []api.Leaf{{Skip: math.MaxInt, Len: math.MaxInt}, {Kind: 2, Len: 2}, end}, api.ErrLeaf},
		{"a sum that wraps round to 0", []api.Leaf{{Len: math.MaxInt}, {Len: math.MaxInt}, {Len: 2}, end}, api.ErrLeaf},
		{"too long, of nothing but wrong ones", slices.Repeat([]api.Leaf{{Kind: -9, Skip: -1}}, api.MaxText+2), api.ErrLong},
		{"too long, else right", append(make([]api.Leaf, api.MaxText+1), end), api.ErrLong},
		{"as long as may be, wrong", slices.Repeat([]api.Leaf{{Kind: -9, Skip: -1}}, api.MaxText+1), api.ErrLeaf},
		{"as long as may be", append(make([]api.Leaf, api.MaxText), end), api.OK},
	} {
		n, l, e := parse.Build(x, tree.New(), c.l)
		if e != c.e || (n != nil) != (e == api.OK) || e != api.OK && len(l) > 0 {
			t.Errorf("P1101: %s: %v %v, not %v", c.what, l, e, c.e)
		}
	}
}

// TestMachineExample: the second and the third one of the chapter.
func TestMachineExample(t *testing.T) {
	x, m := made(t, ten), tree.New()
	l := nodes(m, row("1+;", "1;"))
	num, semi, end := l[0], l[1], l[2]
	p := parse.New(x, m)
	stands(t, p, x, 0, 0, "100000")
	refuses(t, p, x, api.ErrGoes, func() api.Errno { return p.Put(semi) })
	gives(t, p.Put(num), api.OK)
	stands(t, p, x, 2, 2, "011000")
	refuses(t, p, x, api.ErrGoes, func() api.Errno { return p.Put(num) })
	gives(t, p.Put(semi), api.OK)
	stands(t, p, x, 9, 3, "100000")
	root, e := p.End(end)
	if e != api.OK || shape("1+;", root) != "R(0(1()2(5(6(1));))$)" {
		t.Errorf("P1107: %v %s", e, shape("1+;", root))
	}
	stands(t, p, x, 0, 0, "100000")

	other, _, _ := parse.Build(x, m, row("1+;", "1;1;"))
	sub := down(other, 0, 1, 0) // E over the second num, behind L
	if shape("1+;", sub) != "5(6(1))" {
		t.Fatal(shape("1+;", sub))
	}
	p = parse.New(x, m)
	refuses(t, p, x, api.ErrGoes, func() api.Errno { return p.Take(sub, 5) })
	gives(t, p.Take(sub, 1), api.OK)
	stands(t, p, x, 5, 2, "011000")
	refuses(t, p, x, api.ErrGoes, func() api.Errno { return p.Take(sub, 1) })
	gives(t, p.Put(semi), api.OK)
	root, e = p.End(end)
	if e != api.OK || shape("1+;", root) != "R(0(1()2(5(6(1));))$)" || down(root, 0, 1, 0) != sub {
		t.Errorf("P1105: %v %s", e, shape("1+;", root))
	}
}

// down goes from a node to a child, its child, and so on.
func down(n *tree.Node, path ...int) *tree.Node {
	for _, i := range path {
		n, _ = n.Kid(i)
	}
	return n
}

// goesOf tells what goes on: a 1 for each kind from 0 on that does, a 0 for each that does not, and E at last, if the end does.
func goesOf(p *parse.Machine, x *table.Table) string {
	var b strings.Builder
	for kind := range len(x.States().Spec().Lex) + 2 {
		b.WriteString(map[bool]string{true: "1", false: "0"}[p.Goes(kind)])
	}
	if p.Goes(api.KEnd) {
		b.WriteString("E")
	}
	return b.String()
}

// stands holds all that a machine tells of itself against what it must be; of goes the end is left out.
func stands(t *testing.T, p *parse.Machine, x *table.Table, state, depth int, goes string) {
	t.Helper()
	if p.State() != state || p.Depth() != depth || strings.TrimSuffix(goesOf(p, x), "E") != goes {
		t.Errorf("P1102: state %d, depth %d, goes %s; not %d, %d, %s", p.State(), p.Depth(), goesOf(p, x), state, depth, goes)
	}
}

func gives(t *testing.T, got, want api.Errno) {
	t.Helper()
	if got != want {
		t.Errorf("%v, not %v", got, want)
	}
}

// refuses holds a call against the error that it must answer, and asks whether all that the machine tells of itself is as it was.
func refuses(t *testing.T, p *parse.Machine, x *table.Table, want api.Errno, do func() api.Errno) {
	t.Helper()
	state, depth, goes := p.State(), p.Depth(), goesOf(p, x)
	gives(t, do(), want)
	if p.State() != state || p.Depth() != depth || goesOf(p, x) != goes {
		t.Errorf("P4: state %d, depth %d, goes %s; it was %d, %d, %s", p.State(), p.Depth(), goesOf(p, x), state, depth, goes)
	}
}
