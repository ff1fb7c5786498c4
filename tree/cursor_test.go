package tree_test

import (
	"math"
	"testing"

	"graft/api"
	"graft/tree"
)

// TestAtTheTop is P1009: a cursor does not leave the tree of its own node, though that hangs in another.
func TestAtTheTop(t *testing.T) {
	_, a, b, x, y, z := sample(t)
	for _, n := range []*tree.Node{a, b, x, y, z} {
		c := n.Cursor()
		for range 2 {
			if c.Up() || c.Right() || c.Left() {
				t.Error("P1009: it left its top")
			}
			stands(t, c, n, 0)
		}
		for _, i := range []int{math.MinInt, -1, n.Count(), n.Count() + 1, math.MaxInt} {
			if c.Down(i) {
				t.Errorf("P1009: Down(%d) of %d", i, n.Count())
			}
			stands(t, c, n, 0)
		}
	}
	c := x.Cursor()
	if !c.Down(1) || !c.Up() || c.Up() {
		t.Error("P1009: down and up")
	}
	stands(t, c, x, 0)
}

// TestFirstAndLast is P1009: Right and Left from the first child to the last one and back.
func TestFirstAndLast(t *testing.T) {
	_, _, _, x, y, z := sample(t)
	c := z.Cursor()
	if !c.Down(0) || c.Left() {
		t.Error("P1009: left of the first child")
	}
	stands(t, c, x, 0, 0)
	if !c.Right() {
		t.Error("P1009: Right")
	}
	stands(t, c, y, 4, 1)
	if !c.Right() {
		t.Error("P1009: Right")
	}
	stands(t, c, x, 4, 2)
	if c.Right() {
		t.Error("P1009: right of the last child")
	}
	stands(t, c, x, 4, 2)
	if !c.Left() || !c.Left() || c.Left() {
		t.Error("P1009: Left")
	}
	stands(t, c, x, 0, 0)
}

// bare is a tree in which leaves of no bytes, and nodes without leaves, stand ahead of, between and behind the others.
func bare(g *grove) *plain {
	none, end := g.leaf(api.Leaf{Kind: 1}), g.leaf(api.Leaf{Kind: api.KEnd})
	odd := g.leaf(api.Leaf{Kind: 2, Skip: -4, Len: api.MaxText + 1})
	one, two := g.leaf(api.Leaf{Kind: 3, Len: 1}), g.leaf(api.Leaf{Kind: 4, Skip: 1, Len: 2})
	hollow := g.over(api.NInner, 0, g.over(api.NError, 0), none, g.over(api.NInner, 1))
	left := g.over(api.NInner, 2, none, hollow, one, odd, hollow)
	right := g.over(api.NInner, 3, hollow, hollow, two, none)
	return g.over(api.NRoot, 0, hollow, left, none, hollow, right, left, one, one, odd, end)
}

// TestToBare is P1010: among leaves of no bytes, from each place of the tree to each other.
func TestToBare(t *testing.T) {
	g := newGrove(t)
	p := bare(g)
	toEverywhere(t, p)
	hollow := p.kids[0]
	toEverywhere(t, hollow)
	if c := hollow.node.Cursor(); c.To(0) || c.To(-1) || c.To(1) {
		t.Error("P1010: a place of a tree of no bytes")
	}
}

// TestToAtALeaf is P1010: a tree that is one leaf.
func TestToAtALeaf(t *testing.T) {
	s := tree.New()
	a := leaf(t, s, api.Leaf{Skip: 1, Len: 2})
	c := a.Cursor()
	for at, want := range map[int]bool{math.MinInt: false, -1: false, 0: true, 1: true, 2: true, 3: false, math.MaxInt: false} {
		if c.To(at) != want {
			t.Errorf("P1010: To(%d): %v", at, !want)
		}
		stands(t, c, a, 0)
	}
	none := leaf(t, s, api.Leaf{}).Cursor()
	if none.To(0) {
		t.Error("P1010: a place of a leaf of no bytes")
	}
}

// TestInTurns is P1012: two cursors of one node, and one of a node below, moved in turns.
func TestInTurns(t *testing.T) {
	_, a, b, x, y, z := sample(t)
	one, two, three := z.Cursor(), z.Cursor(), x.Cursor()
	one.To(7)
	stands(t, two, z, 0)
	two.Down(1)
	three.Down(0)
	stands(t, one, b, 7, 2, 1)
	stands(t, two, y, 4, 1)
	stands(t, three, a, 0, 0)
	one.Up()
	two.Left()
	three.Right()
	stands(t, one, x, 4, 2)
	stands(t, two, x, 0, 0)
	stands(t, three, b, 3, 1)
	two.Down(1)
	one.Down(0)
	three.Up()
	stands(t, one, a, 4, 2, 0)
	stands(t, two, b, 3, 0, 1)
	stands(t, three, x, 0)
	fresh := z.Cursor()
	stands(t, fresh, z, 0)
}
