package parse_test

import (
	"math"
	"strings"
	"testing"

	"graft/api"
	"graft/parse"
	"graft/tree"
)

// over makes a node.
func over(t *testing.T, m *tree.Store, kind, n int, kids ...*tree.Node) *tree.Node {
	t.Helper()
	x, e := m.Make(kind, n, kids...)
	if e != api.OK {
		t.Fatal(e)
	}
	return x
}

// TestGoes is P1103 for every number around the kinds, at each leaf of a text.
func TestGoes(t *testing.T) {
	x, m := made(t, ten), tree.New()
	p := parse.New(x, m)
	for i, c := range []struct{ sign, goes string }{{"1", "100000E"}, {"+", "011000"}, {"1", "100000"}, {";", "011000"}, {"1", "100000E"}} {
		if got := goesOf(p, x); got != c.goes {
			t.Errorf("P1103: at leaf %d %s, not %s", i, got, c.goes)
		}
		for _, kind := range []int{api.KBad, -3, -4, 6, 7, 64, 65, math.MinInt, math.MaxInt} {
			if p.Goes(kind) {
				t.Errorf("P1103: at leaf %d Goes(%d)", i, kind)
			}
		}
		gives(t, put(c.sign)(m, p), api.OK)
	}
}

// TestGoesError: where error itself could be put on, the number of error, and that of end, still are no kinds.
func TestGoesError(t *testing.T) {
	x := made(t, "token l = /l/; token r = /r/; token x = /x/; start S; S = l S r | x | error; ")
	p := parse.New(x, tree.New())
	if got := goesOf(p, x); got != "10100" {
		t.Errorf("P1103: %s", got)
	}
	empty := made(t, "token x = /x/; start S; S = x | error x | ;")
	p = parse.New(empty, tree.New())
	if got := goesOf(p, empty); got != "100E" {
		t.Errorf("P1103: %s", got)
	}
}

// TestPutRefuses is P1104.
func TestPutRefuses(t *testing.T) {
	x, m := made(t, ten), tree.New()
	p := parse.New(x, m)
	num := m.Leaf(api.Leaf{Len: 1})
	for _, ahead := range []string{"", "1", "+", "1", ";"} {
		if ahead != "" {
			gives(t, put(ahead)(m, p), api.OK)
		}
		for _, kind := range []int{3, 4, 5, 6, api.KEnd, -3, math.MinInt, math.MaxInt} {
			refuses(t, p, x, api.ErrLeaf, func() api.Errno { return p.Put(m.Leaf(api.Leaf{Kind: kind, Len: 1})) })
		}
		for _, n := range []*tree.Node{over(t, m, api.NInner, 0), over(t, m, api.NInner, 6, num), over(t, m, api.NError, 0, num), over(t, m, api.NRoot, 0, num), over(t, m, api.NBroken, 0, num)} {
			refuses(t, p, x, api.ErrLeaf, func() api.Errno { return p.Put(n) })
		}
		for sign, kind := range map[string]int{"1": 0, "+": 1, ";": 2, "#": api.KBad} {
			if !p.Goes(kind) {
				refuses(t, p, x, api.ErrGoes, func() api.Errno { return put(sign)(m, p) })
			}
		}
	}
}

// TestPutOdd is P1104 of leaves that are odd in all but their kinds: they are put on as they are.
func TestPutOdd(t *testing.T) {
	x, m := made(t, ten), tree.New()
	p := parse.New(x, m)
	l := []*tree.Node{m.Leaf(api.Leaf{Kind: 0, Skip: -4, Len: math.MaxInt, Reach: -1}), m.Leaf(api.Leaf{Kind: 2, Skip: math.MaxInt, Len: math.MinInt})}
	for _, n := range l {
		gives(t, p.Put(n), api.OK)
	}
	root, e := p.End(m.Leaf(api.Leaf{Kind: api.KEnd, Skip: -1, Len: 5}))
	if e != api.OK || down(root, 0, 1, 0, 0, 0) != l[0] || down(root, 0, 1, 1) != l[1] {
		t.Errorf("P1104: %v", e)
	}
}

// TestTakeRefuses is P1105.
func TestTakeRefuses(t *testing.T) {
	x, m := made(t, ten), tree.New()
	num, plus, bad, end := m.Leaf(api.Leaf{Len: 1}), m.Leaf(api.Leaf{Kind: 1, Len: 1}), m.Leaf(api.Leaf{Kind: api.KBad, Len: 1}), m.Leaf(api.Leaf{Kind: api.KEnd})
	e := over(t, m, api.NInner, 5, over(t, m, api.NInner, 6, num))
	for _, c := range []struct {
		what string
		n    *tree.Node
	}{
		{"a leaf", num},
		{"an error node", over(t, m, api.NError, 0, num)},
		{"a root", over(t, m, api.NRoot, 0, e, end)},
		{"a broken root", over(t, m, api.NBroken, 0, num, end)},
		{"no production", over(t, m, api.NInner, 7, num)},
		{"no production by far", over(t, m, api.NInner, math.MaxInt, num)},
		{"an error node in it", over(t, m, api.NInner, 5, num, over(t, m, api.NError, 0))},
		{"a bad leaf in it", over(t, m, api.NInner, 5, num, bad)},
		{"nothing in it", over(t, m, api.NInner, 1)},
		{"nothing in it but nodes", over(t, m, api.NInner, 5, over(t, m, api.NInner, 1), over(t, m, api.NInner, 1))},
		{"a leaf first that does not go on", over(t, m, api.NInner, 5, plus, num)},
		{"trivia first", over(t, m, api.NInner, 5, m.Leaf(api.Leaf{Kind: 3, Len: 1}), num)},
		{"a number that is no kind first", over(t, m, api.NInner, 5, m.Leaf(api.Leaf{Kind: 4, Len: 1}), num)},
	} {
		p := parse.New(x, m)
		for at := -1; at < x.States().Len()+2; at++ {
			if got := p.Take(c.n, at); got != api.ErrGoes || p.State() != 0 || p.Depth() != 0 || goesOf(p, x) != "100000E" {
				t.Fatalf("P1105: %s at %d: %v, depth %d", c.what, at, got, p.Depth())
			}
		}
	}
	list := over(t, m, api.NInner, 0, num) // an L stands in state 0 alone, an E in state 1: nothing lies behind another
	for _, at := range []int{-1, 0, 1, 2, 3, 4, 5, 10, 11, math.MinInt, math.MaxInt} {
		p := parse.New(x, m)
		if at != 0 {
			refuses(t, p, x, api.ErrGoes, func() api.Errno { return p.Take(list, at) })
		}
		if at != 1 {
			refuses(t, p, x, api.ErrGoes, func() api.Errno { return p.Take(e, at) })
		}
		gives(t, p.Take(e, 1), api.OK)
		p = parse.New(x, m)
		gives(t, p.Take(list, 0), api.OK)
		stands(t, p, x, 1, 1, "100000")
	}
}

// TestTakeOnTheWay is P1105: the productions that make the stack ready are done just until the state is met, the first time, even if others would follow.
func TestTakeOnTheWay(t *testing.T) {
	x, m := made(t, "token x = /x/; token b = /b/; start S; S = A B C x; A = ; B = b | ; C = ; "), tree.New()
	a := x.States()
	at := func(names ...int) int {
		var row []api.Sym
		for _, n := range names {
			row = append(row, api.Sym{Kind: api.SName, N: n})
		}
		return a.Run(row)
	}
	b := over(t, m, api.NInner, 2, m.Leaf(api.Leaf{Kind: 0, Len: 1})) // a B that begins with x, as none of a text does
	p := parse.New(x, m)
	refuses(t, p, x, api.ErrGoes, func() api.Errno { return p.Take(b, 0) })
	refuses(t, p, x, api.ErrGoes, func() api.Errno { return p.Take(b, at(1, 2)) })
	refuses(t, p, x, api.ErrGoes, func() api.Errno { return p.Take(b, at(1, 2, 3)) })
	gives(t, p.Take(b, at(1)), api.OK)
	if p.Depth() != 2 || p.State() != at(1, 2) {
		t.Errorf("P1105: depth %d, state %d", p.Depth(), p.State())
	}
	l := nodes(m, row("xb", "x"))
	gives(t, p.Put(l[0]), api.OK)
	root, e := p.End(l[1])
	if e != api.OK || shape("xb", root) != "R(0(1()2(x)4()x)$)" {
		t.Errorf("P1105: %v %s", e, shape("xb", root))
	}
	c := over(t, m, api.NInner, 4, l[0])
	gives(t, p.Take(c, at(1, 2)), api.OK)
	if p.Depth() != 3 || p.State() != at(1, 2, 3) {
		t.Errorf("P1105: depth %d, state %d", p.Depth(), p.State())
	}
}

// TestTakeFirst is P1105: where a state is met several times the first time counts.
func TestTakeFirst(t *testing.T) {
	x, m := made(t, "token o = /o/; token c = /c/; token x = /x/; start S; S = o X c; X = x X W | ; W = ;"), tree.New()
	p := parse.New(x, m)
	l := nodes(m, row("ocx", "oxxxc"))
	for _, n := range l[:4] {
		gives(t, p.Put(n), api.OK)
	}
	o, xs, X, W := api.Sym{Kind: api.STerminal}, api.Sym{Kind: api.STerminal, N: 2}, api.Sym{Kind: api.SName, N: 1}, api.Sym{Kind: api.SName, N: 2}
	at := x.States().Run([]api.Sym{o, xs, X})
	gives(t, p.Take(over(t, m, api.NInner, 3, m.Leaf(api.Leaf{Kind: 1, Len: 1})), at), api.OK)
	if p.Depth() != 6 || p.State() != x.States().Go(at, W) {
		t.Errorf("P1105: depth %d, state %d", p.Depth(), p.State())
	}
	gives(t, p.Put(l[4]), api.OK)
	root, e := p.End(l[5])
	if e != api.OK || shape("ocx", root) != "R(0(o1(x1(x1(x2()3(c))3())3())c)$)" {
		t.Errorf("P1105: %v %s", e, shape("ocx", root))
	}
}

// TestTakeBehindEnd is P1105 of a tree that begins with an end leaf: end goes on where a text may end, and so the tree is taken as its words say.
func TestTakeBehindEnd(t *testing.T) {
	x, m := made(t, ten), tree.New()
	sub := over(t, m, api.NInner, 2, m.Leaf(api.Leaf{Kind: api.KEnd}))
	p := parse.New(x, m)
	gives(t, p.Take(sub, 1), api.OK)
	if p.Depth() != 2 || p.State() != 4 {
		t.Errorf("P1105: depth %d, state %d", p.Depth(), p.State())
	}
	gives(t, put("1")(m, p), api.OK)
	refuses(t, p, x, api.ErrGoes, func() api.Errno { return p.Take(sub, 1) })
}

// TestWrongRefuses is P1106: places that are none, leaves that go on, and errors that nothing mends.
func TestWrongRefuses(t *testing.T) {
	x, m := made(t, ten), tree.New()
	p := parse.New(x, m)
	l := nodes(m, row("1+;", "1+;"))
	gives(t, p.Put(l[0]), api.OK)
	for _, c := range []struct {
		l []*tree.Node
		i int
	}{{nil, 0}, {nil, -1}, {l, -1}, {l, 4}, {l, math.MinInt}, {l, math.MaxInt}, {l, 1}, {l, 2}, {l[:1], 0}, {l[:1], 1}, {l, 3}, {l[3:], 0}} {
		state, depth, goes := p.State(), p.Depth(), goesOf(p, x)
		if keep, on, ok := p.Wrong(c.l, c.i); keep != 0 || on != 0 || ok {
			t.Errorf("P1106: Wrong(%d leaves, %d): %d %d %v", len(c.l), c.i, keep, on, ok)
		}
		if on, ok := p.Mend(c.l, c.i); on != 0 || ok {
			t.Errorf("P1106: Mend(%d leaves, %d): %d %v", len(c.l), c.i, on, ok)
		}
		if p.State() != state || p.Depth() != depth || goesOf(p, x) != goes {
			t.Errorf("P1106: at %d something has changed", c.i)
		}
	}
	if keep, on, ok := p.Wrong(l, 0); keep != 1 || on != 2 || !ok {
		t.Errorf("P1106: %d %d %v", keep, on, ok)
	}
	other := []*tree.Node{l[0], over(t, m, api.NInner, 2, l[2]), l[3]} // no leaf, with the number of one that would go on
	if on, ok := p.Mend(other, 0); on != 0 || ok {
		t.Errorf("P1106: %d %v", on, ok)
	}
}

// TestNotAhead is P1106: leaves ahead of the place are not looked at, and those behind the one that goes on count for nothing.
func TestNotAhead(t *testing.T) {
	x, m := made(t, ten), tree.New()
	l := nodes(m, row("1+;", ";;;+1;;1"))
	p := parse.New(x, m)
	if keep, on, ok := p.Wrong(l, 3); keep != 0 || on != 5 || !ok {
		t.Errorf("P1106: %d %d %v", keep, on, ok)
	}
	if on, ok := p.Mend(l, 3); on != 5 || !ok || p.Depth() != 2 {
		t.Errorf("P1106: %d %v", on, ok)
	}
	gives(t, p.Put(l[5]), api.OK)
	root, _ := p.End(l[8])
	if shape("1+;", root) != "R(0(1()3(X(+1);))$)" || down(root, 0, 1, 0, 0) != l[3] || down(root, 0, 1, 0, 1) != l[4] {
		t.Errorf("P1106: %s", shape("1+;", root))
	}
}

// TestOneMindful is P1106 and P3: what one list has shown is not kept for the next one, with a stack that takes many productions.
func TestOneMindful(t *testing.T) {
	x, m := made(t, "token x = /x/; token semi = /;/; token o = /o/; token c = /c/; start B; B = S B | ; S = x semi | o B c | o B error c;"), tree.New()
	p := parse.New(x, m)
	for _, n := range nodes(m, row("x;oc", "o"+strings.Repeat("x;", 30)))[:61] {
		gives(t, p.Put(n), api.OK)
	}
	without, with := nodes(m, row("x;oc", ";x")), nodes(m, row("x;oc", ";xxc"))
	for range 3 {
		if keep, on, ok := p.Wrong(without, 0); keep != 0 || on != 0 || ok {
			t.Errorf("P1106: %d %d %v", keep, on, ok)
		}
		if keep, on, ok := p.Wrong(with, 0); keep != p.Depth() || on != 3 || !ok {
			t.Errorf("P1106: %d %d %v", keep, on, ok)
		}
	}
}

// TestEndRefuses is P1107, and that a machine is used again.
func TestEndRefuses(t *testing.T) {
	x, m := made(t, ten), tree.New()
	p := parse.New(x, m)
	num, end := m.Leaf(api.Leaf{Len: 1}), m.Leaf(api.Leaf{Kind: api.KEnd})
	ends := func(n *tree.Node) func() api.Errno {
		return func() api.Errno {
			root, e := p.End(n)
			if root != nil {
				t.Error("P4: a root beside an error")
			}
			return e
		}
	}
	for _, ahead := range []string{"", "1", "+", "1"} {
		if ahead != "" {
			gives(t, put(ahead)(m, p), api.OK)
			refuses(t, p, x, api.ErrGoes, ends(end))
		}
		for _, kind := range []int{0, 2, 3, 5, api.KBad, -3, math.MaxInt} {
			refuses(t, p, x, api.ErrLeaf, ends(m.Leaf(api.Leaf{Kind: kind, Len: 1})))
		}
		for _, kind := range []int{api.NInner, api.NError, api.NRoot, api.NBroken} {
			refuses(t, p, x, api.ErrLeaf, ends(over(t, m, kind, 0, end)))
		}
	}
	gives(t, put(";")(m, p), api.OK)
	for range 3 {
		root, e := p.End(end)
		if e != api.OK || root == nil || down(root, 1) != end {
			t.Errorf("P1107: %v", e)
		}
		stands(t, p, x, 0, 0, "100000")
		gives(t, p.Put(num), api.OK)
		gives(t, put(";")(m, p), api.OK)
	}
}
