package delta_test

import (
	"slices"
	"testing"

	"graft/api"
	"graft/delta"
	"graft/tree"
)

// wantSteps holds Script against what it should tell.
func wantSteps(t *testing.T, what string, a, b *tree.Node, want ...api.Op) {
	t.Helper()
	if got := delta.Script(a, b); !slices.Equal(got, want) {
		t.Errorf("P1504: %s: %v, want %v", what, got, want)
	}
}

// TestScript is P1504: each kind of node, old and new, above and below others.
func TestScript(t *testing.T) {
	g := newGrove(t)
	l := api.Leaf{Kind: 3, Skip: 1, Len: 2, Reach: 7}
	x, y, none := g.leaf(2), g.leaf(1), g.over()
	w := g.m.Leaf(l)
	old := g.node(api.NInner, 5, x, none)
	a := g.node(api.NRoot, 0, old, y)
	wantSteps(t, "itself", a, a, keep(a))
	wantSteps(t, "one below", a, old, keep(old))
	wantSteps(t, "a leaf below", a, x, keep(x))
	wantSteps(t, "nothing below", a, none, keep(none))
	wantSteps(t, "a new leaf", a, w, put(l))
	wantSteps(t, "a new node without children", a, g.over(), join(api.NError, 0, 0))
	wantSteps(t, "a new node over an old one", a, g.node(api.NInner, 2, old), keep(old), join(api.NInner, 2, 1))
	wantSteps(t, "a new node alike", a, g.node(api.NRoot, 0, old, y), keep(old), keep(y), join(api.NRoot, 0, 2))
	wantSteps(t, "old leaves below a new node", a, g.node(api.NInner, 5, x, g.over()), keep(x), join(api.NError, 0, 0), join(api.NInner, 5, 2))
	wantSteps(t, "above", old, a, keep(old), put(api.Leaf{Len: 1}), join(api.NRoot, 0, 2))
	wantSteps(t, "above, out of a leaf", x, a, keep(x), join(api.NError, 0, 0), join(api.NInner, 5, 2), put(api.Leaf{Len: 1}), join(api.NRoot, 0, 2))
	wantSteps(t, "out of nothing", none, w, put(l))
	wantSteps(t, "new ones twice", x, g.over(w, w), put(l), put(l), join(api.NError, 0, 2))
	wantSteps(t, "old ones twice", a, g.node(api.NBroken, 0, old, w, old, x, x), keep(old), put(l), keep(old), keep(x), keep(x), join(api.NBroken, 0, 5))
	inner := g.node(api.NInner, 0, w, old)
	wantSteps(t, "new ones twice over old ones", a, g.over(inner, inner), put(l), keep(old), join(api.NInner, 0, 2), put(l), keep(old), join(api.NInner, 0, 2), join(api.NError, 0, 2))
}

// TestScriptOfOddLeaves is P1504 and P1506: leaves are told as they were handed in, whatever they are.
func TestScriptOfOddLeaves(t *testing.T) {
	g := newGrove(t)
	a := g.over()
	for _, l := range odd() {
		b := g.m.Leaf(l)
		wantSteps(t, "an odd leaf", a, b, put(l))
		holds(t, g.m, a, b)
		n := wantApply(t, "an odd leaf", g.m, a, api.OK, put(l))
		if got, ok := n.Leaf(); got != l || !ok || n == b {
			t.Errorf("P1505: %v is made as %v", l, got)
		}
	}
}

// TestSelf is P1506's second sentence.
func TestSelf(t *testing.T) {
	g := newGrove(t)
	x, y := g.leaf(2), g.leaf(0)
	for _, b := range []*tree.Node{x, y, g.over(), g.over(x, y), g.node(api.NRoot, 0, g.over(g.over(), x), y, g.over())} {
		wantSteps(t, "itself", b, b, keep(b))
		wantLeaves(t, "itself", b, b, nil, nil)
		if n := wantApply(t, "itself", g.m, b, api.OK, delta.Script(b, b)...); n != b {
			t.Error("P1506: it is not the same node")
		}
	}
}
