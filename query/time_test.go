package query_test

import (
	"fmt"
	"slices"
	"strings"
	"testing"
	"time"

	"graft/api"
	"graft/tree"
)

// patience is many times what each of these takes; who tries all ways, or goes through the tree anew for each node, takes longer than can be waited for.
const patience = 60 * time.Second

// soon does something that must not take long.
func soon(t *testing.T, what string, do func()) {
	t.Helper()
	late := time.AfterFunc(patience, func() { panic("P1409: this takes too long: " + what) })
	defer late.Stop()
	do()
}

// wantCount holds of a query how many findings it has, and that it is soon done with.
func wantCount(t *testing.T, s api.Spec, n *tree.Node, text, ask string, want int) {
	t.Helper()
	q := parsed(t, s, ask)
	soon(t, fmt.Sprintf("%.60s in %d nodes", ask, n.Size()), func() {
		k, e := q.Count(n, []byte(text))
		if want > api.MaxTries && (k != 0 || e != api.ErrTries) || want <= api.MaxTries && (k != want || e != api.OK) {
			t.Errorf("P1406: %.60s in %d nodes: %d %v, not %d", ask, n.Size(), k, e, want)
		}
	})
}

// wantFew holds of a query that its first findings are soon there, of which it has more than can be waited for.
func wantFew(t *testing.T, s api.Spec, n *tree.Node, text, ask string) {
	t.Helper()
	q := parsed(t, s, ask)
	soon(t, fmt.Sprintf("the first of %.60s in %d nodes", ask, n.Size()), func() {
		l := findings(t, q, n, text, 50)
		m, ok, e := q.First(n, []byte(text))
		if len(l) != 50 || !ok || e != api.OK || !same(m, l[0]) {
			t.Errorf("P1409: %.60s in %d nodes: %d findings, %v %v", ask, n.Size(), len(l), ok, e)
		}
	})
}

// row is a node over children of these kinds, each so many times: a leaf of one byte each, of a single node.
func row(t *testing.T, kinds string, times ...int) *tree.Node {
	t.Helper()
	st := tree.New()
	var kids []*tree.Node
	for i, c := range kinds {
		kids = append(kids, slices.Repeat([]*tree.Node{st.Leaf(api.Leaf{Kind: int(c - 'a'), Len: 1})}, times[i])...)
	}
	n, e := st.Make(api.NBroken, 0, kids...)
	if e != api.OK {
		t.Fatal(e)
	}
	return n
}

// chain is so many nodes over one another, with leaves ahead of the next one and behind; the lowest one is the leaf a.
func chain(t *testing.T, size, ahead, behind int) *tree.Node {
	t.Helper()
	st := tree.New()
	n := st.Leaf(api.Leaf{Kind: 0, Skip: 1, Len: 1})
	side := []*tree.Node{st.Leaf(api.Leaf{Kind: 2})}
	for range size {
		var e api.Errno
		if n, e = st.Make(api.NInner, 0, slices.Concat(slices.Repeat(side, ahead), []*tree.Node{n}, slices.Repeat(side, behind))...); e != api.OK {
			t.Fatal(e)
		}
	}
	return n
}

// nest is a query of brackets within one another.
func nest(depth int, open, inner string) string {
	return strings.Repeat(open, depth) + inner + strings.Repeat(")", depth)
}

// TestManyParts is P1409 of nodes with very many children and queries with very many parts.
func TestManyParts(t *testing.T) {
	t.Parallel()
	const size = 1 << 18
	s := letters()
	all := row(t, "a", size)
	text := strings.Repeat("x", size+1)
	one := row(t, "ab", size, 1)
	for _, c := range []struct {
		n    *tree.Node
		ask  string
		want int
	}{
		{all, "(_" + strings.Repeat(" a", 2000) + " b)", 0},
		{all, "(_" + strings.Repeat(" a", 2000) + " b a)", 0},
		{all, "(_ b" + strings.Repeat(" a", 2000) + ")", 0},
		{all, "(_" + strings.Repeat(" ~a", 1300) + " ~b)", 0},
		{all, "(_" + strings.Repeat(" a.a", 800) + ".b)", 0},
		{all, "(_ a" + strings.Repeat(".a", 60) + ".b)", 0},
		{all, "(_ a" + strings.Repeat(" a .a", 300) + " b .)", 0},
		{all, "(_" + strings.Repeat(" a", 2000) + ` a = "y" .)`, 0},
		{all, "(_" + strings.Repeat(" a ~a", 500) + ` ~ (_ _))`, 0},
		{one, "(_" + strings.Repeat(" a", 2000) + " b a)", 0},
		{one, "(_ b" + strings.Repeat(" a", 2000) + ")", 0},
		{one, "(_ a b)", size}, {one, "(_ a @x b @y .)", size}, {one, "(_ a .b)", 1}, {one, "(_ ~ a ~ b)", size}, {one, "(_ a . a b)", size - 1}, {one, "(_ . a" + strings.Repeat(" .a", 1000) + " b)", 1},
	} {
		wantCount(t, s, c.n, text[:c.n.Width()], c.ask, c.want)
	}
	for _, ask := range []string{"(_" + strings.Repeat(" _", 2000) + ")", "(_" + strings.Repeat(" ~_", 1300) + ")", "(_" + strings.Repeat(" a", 2000) + " b)", "(_ a @x a @y a @z b)"} {
		wantFew(t, s, one, text, ask)
	}
}

// TestDeadEnds is P1409: where each choice by itself looks right, but the last part has no room; and where a few findings stand far behind one another.
func TestDeadEnds(t *testing.T) {
	t.Parallel()
	s := letters()
	n := row(t, "abab", 40, 40, 40, 1)
	text := strings.Repeat("x", n.Width())
	for _, c := range []struct {
		ask  string
		want int
	}{
		{"(_" + strings.Repeat(" a", 40) + strings.Repeat(" b", 40) + strings.Repeat(" a", 40) + " b)", 1},
		{"(_" + strings.Repeat(" ~a", 40) + strings.Repeat(" ~b", 40) + strings.Repeat(" ~a", 40) + " ~b .)", 1},
		{"(_" + strings.Repeat(" a", 41) + strings.Repeat(" b", 40) + strings.Repeat(" a", 39) + " b)", 0},
		{"(_" + strings.Repeat(" a", 39) + strings.Repeat(" b", 40) + strings.Repeat(" a", 40) + " b)", 40},
		{"(_" + strings.Repeat(" a", 80) + " a b)", 0}, {"(_" + strings.Repeat(" a", 79) + " a . b)", 1}, {"(_" + strings.Repeat(" _", 120) + " b)", 1}, {"(_" + strings.Repeat(" _", 120) + " a)", 0}, {"(_" + strings.Repeat(" _ . _", 60) + " b .)", 1},
	} {
		wantCount(t, s, n, text, c.ask, c.want)
	}
	// The same, with the choices in nodes below.
	st := tree.New()
	a, b := st.Leaf(api.Leaf{Kind: 0}), st.Leaf(api.Leaf{Kind: 1})
	x, _ := st.Make(api.NInner, 0, slices.Repeat([]*tree.Node{a}, 60)...)
	y, _ := st.Make(api.NInner, 1, append(slices.Repeat([]*tree.Node{x}, 60), b)...)
	root, _ := st.Make(api.NRoot, 0, y, y, y)
	inner := "(X" + strings.Repeat(" a", 30) + " b)"
	wantCount(t, s, root, "", "(_"+strings.Repeat(" ~ a", 3)+" ~ b _)", 0)
	wantCount(t, s, root, "", "(_ (Y (X a a) (X a a) "+inner+") (Y ~ a ~ a ~ a ~ b) (Y))", 0)
	wantCount(t, s, root, "", "(_ ~ (X a a a a) ~ (X a a a a) ~ "+inner+")", 0)
	wantCount(t, s, root, "", "(Y"+strings.Repeat(" (X"+strings.Repeat(" a", 58)+")", 12)+" (X b))", 0)
	wantCount(t, s, root, "", "(_ (Y (X . a) b) (Y b) (Y b . ))", 60)
	wantFew(t, s, root, "", "(_ (Y (X a a @x) (X a a a)) @y (Y ~ a ~ a ~ b) (Y ~ _))")
}

// TestFarApart: a part whose only child is far away is not sought anew for each child of the part ahead.
func TestFarApart(t *testing.T) {
	t.Parallel()
	const size = 1 << 17
	st := tree.New()
	a, b := st.Leaf(api.Leaf{Kind: 0}), st.Leaf(api.Leaf{Kind: 1})
	long := slices.Repeat([]*tree.Node{a}, size)
	x, _ := st.Make(api.NInner, 0, append(slices.Clone(long), b)...)
	root, e := st.Make(api.NRoot, 0, append(slices.Clone(long), x)...)
	if e != api.OK {
		t.Fatal(e)
	}
	for _, ask := range []string{"(_ a (X b))", "(_ a ~ b)", "(_ a ~ (_ b .))", "(_ a (X a . b) .)"} {
		want := size
		if ask == "(_ a ~ b)" {
			want = 2 * size // and in x, whose last child is b
		}
		wantCount(t, letters(), root, "", ask, want)
	}
}

// TestDeep is P1409 and P1 of trees that are very deep.
func TestDeep(t *testing.T) {
	t.Parallel()
	for _, c := range []struct{ size, ahead, behind int }{{1 << 18, 0, 0}, {1 << 17, 0, 1}, {1 << 17, 1, 0}, {1 << 17, 1, 1}, {1 << 13, 20, 20}} {
		n := chain(t, c.size, c.ahead, c.behind)
		bare := c.size // how many nodes above the leaf have its text alone
		if c.ahead > 0 {
			bare = 0
		}
		wantDeep(t, n, c.size, bare)
		q := parsed(t, letters(), "a @x")
		soon(t, "a single path", func() {
			l := findings(t, q, n, " x", 3)
			if len(l) != 1 || len(l[0].Caps[0].Path) != c.size || l[0].Caps[0].From != 1 || l[0].Caps[0].To != 2 || l[0].Caps[0].Path[c.size/2] != c.ahead {
				t.Errorf("P1405: %d findings", len(l))
			}
		})
		wantFew(t, letters(), n, " x", nest(64, "(_ ~ ", "_"))
		wantFew(t, letters(), n, " x", "(_ ~ _ @x) @y")
	}
}

// TestDeepest is P1 of a tree as deep as a million nodes.
func TestDeepest(t *testing.T) {
	t.Parallel()
	const size = 1 << 20
	n := chain(t, size, 0, 1)
	wantCount(t, letters(), n, " x", `(X ~ a = "x" .) (X ~ b)`, 0)
	wantCount(t, letters(), n, " x", "(X ~ a . c)", size)
	wantFew(t, letters(), n, " x", "(X ~ (X ~ _ . c) . c) @x")
}

// wantDeep asks a chain many queries.
func wantDeep(t *testing.T, n *tree.Node, size, bare int) {
	t.Helper()
	for _, c := range []struct {
		ask  string
		want int
	}{
		{"(_ ~ b)", 0}, {"(_ ~ a)", size}, {"(_ ~ (_ ~ (_ ~ b)))", 0}, {"(_ ~ (X ~ b) . _ . _)", 0}, {"a (X a) (X ~ a a)", 2}, {nest(12, "(_ ", "b"), 0}, {nest(12, "(_ ~ ", "b"), 0}, {nest(20, "(X ", "a"), 1}, {"(_ ~ _)", api.MaxTries + 1},
		{`_ = "y"`, 0}, {`(_) ^ "y" (_ ~ (_) = "y")`, 0}, {`(_) = "x"`, bare}, {`_ = "x" - "x"`, 0}, {`(X ~ a = "x")`, size},
	} {
		wantCount(t, letters(), n, " x", c.ask, c.want)
	}
}

// TestLongTrees is P1409 of the trees of long texts, right and wrong ones.
func TestLongTrees(t *testing.T) {
	t.Parallel()
	e := compiled(t, ten)
	s := e.Spec()
	for _, unit := range []string{"1+2+3;45; 6;", "1+;;12 #;3;", "1+2+3+4+5+6;"} {
		text := strings.Repeat(unit, api.MaxText/len(unit))
		units := api.MaxText / len(unit)
		n := planted(t, e, text)
		broken := planted(t, e, text[:len(text)-1])
		for _, ask := range []string{
			`num = "7"`, `(L ~ num = "7")`, `(L ~ (S ~ num = "7" . semi) ~ (S ~ num - "1" = "7"))`, `(E (E (E (E (E (E)))))) = "7"`, "(T num num)", "(_ ~ (_ ~ $))", "(S . (E) . plus)", "(L" + strings.Repeat(` ~ num = "7"`, 300) + ")", strings.Repeat(`(S ~ num = "7") `, 30), "(E" + strings.Repeat(` ~ num - "1"`, 250) + ")",
		} {
			ask = strings.ReplaceAll(ask, "(T num num)", `(T num num)`)
			wantCount(t, s, n, text, ask, 0)
			wantCount(t, s, broken, text[:len(text)-1], ask, 0)
		}
		wantCount(t, s, n, text, "(L ~ num)", api.MaxTries+1)
		wantCount(t, s, n, text, "(L (L) . (S))", strings.Count(text, ";"))
		wantCount(t, s, n, text, "$ (_ $)", 2)
		for _, ask := range []string{"(L ~ num @x)", "(_ ~ _ @a ~ _ @b)", "(L ~ (S ~ _ @a ~ _ @b) @c ~ semi @d) _ _ _", "(L (L ~ (L ~ (L ~ (_ ~ _)))))"} {
			wantFew(t, s, n, text, ask)
		}
		if k := len(findings(t, parsed(t, s, "semi"), n, text, most)); k != units*strings.Count(unit, ";") {
			t.Errorf("P1405: %d findings", k)
		}
	}
}

// TestManyFirsts is P1409: who asks for the First alone does not wait for the whole tree each time.
func TestManyFirsts(t *testing.T) {
	t.Parallel()
	e := compiled(t, ten)
	text := []byte(strings.Repeat("1+2;", api.MaxText/4))
	n := planted(t, e, string(text))
	for _, ask := range []string{"_", "(L . (L) . (S) @x .)", "(L (L (L (L (S)))) ~ num @x)", "(_ ~ (_) . $ @x)", "(_ ~ _ ~ _)", "(_ ~ (_) (S ~ num @x) @y)"} {
		q := parsed(t, e.Spec(), ask)
		soon(t, ask, func() {
			for range 2000 {
				if _, ok, err := q.First(n, text); !ok || err != api.OK {
					t.Fatalf("P1409: %s: %v %v", ask, ok, err)
				}
			}
		})
	}
}
