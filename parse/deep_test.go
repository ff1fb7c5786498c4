package parse_test

import (
	"math/rand"
	"slices"
	"strings"
	"testing"

	"graft/api"
	"graft/parse"
	"graft/table"
	"graft/tree"
)

// The languages of long texts: statements in blocks, the list growing on the left or on the right, with error productions at different places.
const (
	nest      = "token l = /l/; token r = /r/; token x = /x/; start S; S = l S r | x | error;"
	leftList  = "token x = /x/; token semi = /;/; token o = /o/; token c = /c/; start B; B = B S | ; S = E semi | error semi; E = x | o E c | o error c;"
	rightList = "token x = /x/; token semi = /;/; token o = /o/; token c = /c/; start B; B = S B | ; S = x semi | error semi | o B c;"
	rightEnd  = "token x = /x/; token semi = /;/; token o = /o/; token c = /c/; start B; B = S B | ; S = x semi | o B c | o B error c;"
)

// TestLong is P1 and P1013: texts as long as may be, right and wrong, flat and deep; none of them may cost as much as the square of its length.
func TestLong(t *testing.T) {
	const n = api.MaxText
	for _, c := range []struct {
		what, spec, signs, text string
		rows, mishaps           int
		last                    api.Mishap
	}{
		{"deep", nest, "lrx", strings.Repeat("l", n/2-1) + "x" + strings.Repeat("r", n/2-1), 3*(n/2-1) + 4, 0, api.Mishap{}},
		{"deep, never closed", nest, "lrx", strings.Repeat("l", n), n + 4, 1, api.Mishap{Leaf: n, Keep: 0, On: n}},
		{"deep, closed once", nest, "lrx", strings.Repeat("l", n-1) + "r", n + 6, 2, api.Mishap{Leaf: n, Keep: 0, On: n}},
		{"deep, then wrong", nest, "lrx", strings.Repeat("l", n/2) + strings.Repeat("x", n/2), n + 4, 1, api.Mishap{Leaf: n/2 + 1, Keep: 0, On: n}},
		{"a list on the left", leftList, "x;oc", strings.Repeat("x;", n/2), 5*n/2 + 3, 0, api.Mishap{}},
		{"a list on the right", rightList, "x;oc", strings.Repeat("x;", n/2), 2*n + 3, 0, api.Mishap{}},
		{"errors on the left", leftList, "x;oc", strings.Repeat("xx;;", n/4), 0, n / 2, api.Mishap{Leaf: n - 1, Keep: 3, On: n - 1}},
		{"an error at each leaf", leftList, "x;oc", strings.Repeat(";", n), 0, n, api.Mishap{Leaf: n - 1, Keep: 3, On: n - 1}},
		{"the leaf that would help never comes", leftList, "x;oc", strings.Repeat("ox;", n/3), 0, n / 3, api.Mishap{Leaf: n - 2, Keep: 1, On: n - 2}},
		{"errors on the right", rightList, "x;oc", strings.Repeat("x;c;", n/4), 0, n / 4, api.Mishap{Leaf: n - 2, Keep: n / 2, On: n - 1}},
		{"an error that all trees are tried for", rightEnd, "x;oc", strings.Repeat("x;", n/2-1) + "c", n + 1, 1, api.Mishap{Leaf: n - 2, Keep: 0, On: -1}},
		{"that, in a block that is never closed", rightEnd, "x;oc", "o" + strings.Repeat("x;", n/2-1) + "#", n + 2, 1, api.Mishap{Leaf: n - 1, Keep: 0, On: -1}},
		{"that, in a block that is closed", rightEnd, "x;oc", "o" + strings.Repeat("x;", n/2-2) + "##c", 0, 1, api.Mishap{Leaf: n - 3, Keep: n / 2, On: n - 1}},
	} {
		t.Run(c.what, func(t *testing.T) {
			root, l := build(t, made(t, c.spec), tree.New(), row(c.signs, c.text))
			if c.rows > 0 && root.Size() != c.rows {
				t.Errorf("P1101: %d rows, not %d", root.Size(), c.rows)
			}
			if len(l) != c.mishaps || len(l) > 0 && l[len(l)-1] != c.last {
				t.Errorf("P1101: %d mishaps, the last %v; not %d, %v", len(l), l[max(0, len(l)-1):], c.mishaps, c.last)
			}
			if root.Leafs() != len(row(c.signs, c.text)) {
				t.Errorf("P1109: %d leaves", root.Leafs())
			}
		})
	}
}

// TestLongMachine drives a machine through long texts leaf by leaf, against Build (P1108).
func TestLongMachine(t *testing.T) {
	for _, c := range []struct{ what, spec, signs, text string }{
		{"deep", nest, "lrx", strings.Repeat("l", 1<<16) + "xx" + strings.Repeat("r", 1<<16)},
		{"never closed", nest, "lrx", strings.Repeat("l", 1<<17)},
		{"left", leftList, "x;oc", strings.Repeat("x;ooxcc;xx;", 1<<13)},
		{"right", rightList, "x;oc", strings.Repeat("x;ox;ocx;c", 1<<12) + "cc;"},
	} {
		t.Run(c.what, func(t *testing.T) {
			x, m := made(t, c.spec), tree.New()
			leaves := row(c.signs, c.text)
			want, _ := build(t, x, m, leaves)
			root, ok := drive(t, parse.New(x, m), nodes(m, leaves), 0)
			if !ok || !slices.Equal(bare(root), bare(want)) {
				t.Errorf("P1108: %v", ok)
			}
		})
	}
}

// TestDeepTake takes a tree that is as deep as a text is long, on its left side and on its right.
func TestDeepTake(t *testing.T) {
	x, m := made(t, leftList), tree.New()
	root, _ := build(t, x, m, row("x;oc", strings.Repeat("x;", 1<<17)))
	p := parse.New(x, m)
	gives(t, p.Take(down(root, 0), 0), api.OK)
	again, e := p.End(down(root, 1))
	if e != api.OK || down(again, 0) != down(root, 0) {
		t.Errorf("P1105: %v", e)
	}
	y := made(t, nest)
	root, _ = build(t, y, m, row("lrx", strings.Repeat("l", 1<<16)+"x"+strings.Repeat("r", 1<<16)))
	p = parse.New(y, m)
	gives(t, p.Take(down(root, 0), 0), api.OK)
	again, e = p.End(down(root, 1))
	if e != api.OK || again.Size() != root.Size() {
		t.Errorf("P1105: %v", e)
	}
}

// TestManyProductions holds texts whose stacks are deep, so that dry runs take many productions, against the maker.
func TestManyProductions(t *testing.T) {
	r := rand.New(rand.NewSource(1106))
	met := map[string]int{}
	for _, text := range []string{rightList, rightEnd, languages()[5], "token x = /x/; token o = /o/; token c = /c/; token d = /d/; start B; B = S B | N; N = M M; M = ; S = x | o B c | o B error d | d error x;"} {
		x := tableOf(t, read(t, text))
		if x == nil {
			t.Fatalf("conflicts: %s", text)
		}
		manyProductions(t, r, x, met)
	}
	if met["right"] < 500 || met["broken"] < 1000 || met["mended"] < 500 || met["several"] < 200 || met["deep"] < 2000 {
		t.Errorf("too few texts: %v", met)
	}
}

func manyProductions(t *testing.T, r *rand.Rand, x *table.Table, met map[string]int) {
	t.Helper()
	m, store := newModel(x.States().Spec()), tree.New()
	for range 1500 {
		leaves := m.text(r, 200)
		if r.Intn(3) == 0 { // most of the text is a list of one thing, with errors in it
			leaves = slices.Insert(leaves, r.Intn(len(leaves)), slices.Repeat([]api.Leaf{{Kind: 0, Len: 1}}, 60)...)
		}
		n, mishaps := build(t, x, store, leaves)
		want, told := m.tree(leaves)
		if !slices.Equal(bare(n), want.rows()) || !slices.Equal(mishaps, told) {
			t.Fatalf("P13: %v: %v, not %v", leaves, mishaps, told)
		}
		wantDriven(t, x, store, leaves, n)
		count(met, n, mishaps)
	}
}

// twoWays: a row of x is an A, if y stands behind it, or a B; behind both stands the same, Y, and over nothing there is much in it.
const twoWays = "token o = /o/; token x = /x/; token y = /y/; token c = /c/; token d = /d/; start S; S = o A Y c | o B Y d; A = x A | y; B = x B | ; Y = W error Q; W = ; Q = P; P = N; N = M; M = L; L = K; K = J; J = I; I = H; H = G; G = F; F = ;"

// TestTwoWays: what has come to nothing behind some trees may come to something behind fewer, though it looks the same from above.
func TestTwoWays(t *testing.T) {
	x := made(t, twoWays)
	m := newModel(x.States().Spec())
	for n := range 25 {
		for _, tail := range []string{"#d", "#c", "#", "#oxd", "#dc", "#cd"} {
			leaves := row("oxycd", "o"+strings.Repeat("x", n)+"y"+tail)
			root, mishaps := build(t, x, tree.New(), leaves)
			want, told := m.tree(leaves)
			if !slices.Equal(bare(root), want.rows()) || !slices.Equal(mishaps, told) {
				t.Errorf("P13: %d, %s: %v, not %v", n, tail, mishaps, told)
			}
		}
	}
	if _, l := build(t, x, tree.New(), row("oxycd", "oxxxxxxxxxxy#d")); !slices.Equal(l, []api.Mishap{{Leaf: 12, Keep: 11, On: 13}}) {
		t.Errorf("P13: %v", l)
	}
}

// twoBlocks has blocks of two kinds, and lists in them that grow on the right.
const twoBlocks = "token x = /x/; token semi = /;/; token o = /o/; token c = /c/; token q = /q/; token p = /p/; start B; B = S B | ; S = x | error semi | o B c | q B p;"

// blocks is a text of such blocks, with signs in them that do not go on.
func blocks(r *rand.Rand) string {
	text, closers := "", ""
	for range 4 + r.Intn(10) {
		switch k := r.Intn(10); {
		case k < 4:
			text, closers = text+"oq"[k%2:k%2+1], closers+"cp"[k%2:k%2+1]
		case k < 7 && closers != "":
			text, closers = text+closers[len(closers)-1:], closers[:len(closers)-1]
		default:
			text += []string{"c;", "p;", ";", "#;", "c#p;", "c"}[r.Intn(6)]
		}
		text += strings.Repeat("x", r.Intn(25))
	}
	for i := range closers {
		text += closers[len(closers)-1-i:][:1]
	}
	return text
}

// TestTwoBlocks: what does not go on in a block may go on in the next one, though the stack is as deep again.
func TestTwoBlocks(t *testing.T) {
	x := made(t, twoBlocks)
	m := newModel(x.States().Spec())
	many := strings.Repeat("x", 20)
	if root, l := build(t, x, tree.New(), row("x;ocqp", "q"+many+"c;po"+many+"c")); root.Kind() != api.NRoot || !slices.Equal(l, []api.Mishap{{Leaf: 21, Keep: 21, On: 22}}) {
		t.Errorf("P13: %v", l)
	}
	r := rand.New(rand.NewSource(1107))
	met := map[string]int{}
	for range 600 {
		text := blocks(r)
		leaves := row("x;ocqp", text)
		root, mishaps := build(t, x, tree.New(), leaves)
		want, told := m.tree(leaves)
		if !slices.Equal(bare(root), want.rows()) || !slices.Equal(mishaps, told) {
			t.Fatalf("P13: %s: %v, not %v", text, mishaps, told)
		}
		count(met, root, mishaps)
	}
	if met["mended"] < 200 || met["several"] < 150 || met["deep"] < 500 {
		t.Errorf("too few texts: %v", met)
	}
}

// another: behind an A, and behind an error node in its place, stands the same, over nothing at first; but another sign follows.
const another = "token o = /o/; token x = /x/; token w = /w/; token f = /f/; token c = /c/; token d = /d/; start S; S = o A w | o A Y c | o error f | o error Y d; A = x; Y = W error; W = P; P = N; N = M; M = L; L = K; K = J; J = I; I = H; H = G; G = F; F = ;"

// TestAnother: what has come to nothing behind a tree may come to something when an error node stands in its place.
func TestAnother(t *testing.T) {
	x := made(t, another)
	const over = "6(7(8(9(:(;(<(=(>(?(@()))))))))))" // the productions of W to F
	wantTree(t, x, "oxwfcd", "oxw#f#d", "R(3(oX(4(x)w#)5("+over+"X(f#))d)$)", api.Mishap{Leaf: 3, Keep: 1, On: 4}, api.Mishap{Leaf: 5, Keep: 2, On: 6})
	wantTree(t, x, "oxwfcd", "oxw#f#c", "R(1(o4(x)5("+over+"X(w#f#))c)$)", api.Mishap{Leaf: 3, Keep: 2, On: 6})
}
