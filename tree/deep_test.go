package tree_test

import (
	"testing"

	"graft/api"
	"graft/tree"
)

const deep = 1 << 20

// chain is a million nodes over one another, each with the one below as a child, and other leaves ahead of it and behind.
func chain(t *testing.T, s *tree.Store, bottom *tree.Node, ahead, behind []*tree.Node) *tree.Node {
	t.Helper()
	x := bottom
	for range deep {
		var kids []*tree.Node
		kids = append(append(append(kids, ahead...), x), behind...)
		x = node(t, s, api.NInner, 3, kids...)
	}
	return x
}

// TestDeep is P1013: every call on trees as deep as a million nodes, with the next one ahead of a leaf, behind one, between two, and alone.
func TestDeep(t *testing.T) {
	for _, c := range []struct {
		what          string
		ahead, behind int
	}{{"alone", 0, 0}, {"first", 0, 1}, {"last", 1, 0}, {"between", 1, 1}} {
		t.Run(c.what, func(t *testing.T) {
			s := tree.New()
			bottom := leaf(t, s, api.Leaf{Kind: api.KBad, Skip: 1, Len: 1})
			side := leaf(t, s, api.Leaf{Kind: 2, Len: 1})
			x := chain(t, s, bottom, []*tree.Node{side}[:c.ahead], []*tree.Node{side}[:c.behind])
			sides := c.ahead + c.behind
			if x.Width() != 2+deep*sides || x.Leafs() != 1+deep*sides || x.Size() != 1+deep*(1+sides) || !x.Failed() {
				t.Errorf("P1013: %d bytes, %d leaves, %d rows, failed %v", x.Width(), x.Leafs(), x.Size(), x.Failed())
			}
			if l, ok := x.Leaf(); l != (api.Leaf{}) || ok || x.Kind() != api.NInner || x.N() != 3 || x.Count() != 1+sides || x.Number() < 1 {
				t.Error("P1013: the top")
			}
			if k, ok := x.Kid(c.ahead); !ok || k.Size() != x.Size()-1-sides {
				t.Error("P1013: the child of the top")
			}
			deepWalks(t, x, side, sides)
			deepCursor(t, x, bottom, c.ahead, c.behind)
		})
	}
}

// deepWalks goes through a chain by Walk, Leaves and Rows.
func deepWalks(t *testing.T, x, side *tree.Node, sides int) {
	t.Helper()
	rows := x.Rows()
	if len(rows) != x.Size() {
		t.Errorf("P1013: %d rows", len(rows))
	}
	n, end := 0, 0
	for at, below := range x.Walk() {
		if rows[n].Id != below.Number() || rows[n].Kids != below.Count() {
			t.Fatalf("P1013: row %d", n)
		}
		n, end = n+1, max(end, at)
	}
	if n != len(rows) || end > x.Width() {
		t.Errorf("P1013: Walk tells %d nodes, the last at %d", n, end)
	}
	n, end = 0, 0
	for at, below := range x.Leaves() {
		if at != end || sides == 0 && below == side {
			t.Fatalf("P1013: leaf %d begins at %d", n, at)
		}
		n, end = n+1, at+below.Width()
	}
	if n != x.Leafs() || end != x.Width() {
		t.Errorf("P1013: Leaves tells %d leaves, of %d bytes", n, end)
	}
	for range x.Walk() {
		break
	}
	for range x.Leaves() {
		break
	}
}

// deepCursor moves a cursor in a chain: to its bottom by To and by Down, and back up.
func deepCursor(t *testing.T, x, bottom *tree.Node, ahead, behind int) {
	t.Helper()
	c := x.Cursor()
	at := deep * ahead
	if !c.To(at+1) || c.Node() != bottom || c.Offset() != at || len(c.Path()) != deep {
		t.Fatalf("P1013: To stands at %d", c.Offset())
	}
	if c.Left() != (ahead > 0) || ahead > 0 && !c.Right() || c.Right() != (behind > 0) || behind > 0 && !c.Left() {
		t.Error("P1013: beside the bottom")
	}
	if !c.To(0) || !c.To(x.Width()-1) || c.To(x.Width()) || !c.To(at) || c.Node() != bottom {
		t.Error("P1013: To")
	}
	ups := 0
	for c.Up() {
		ups++
		if c.Offset() != (deep-ups)*ahead {
			t.Fatalf("P1013: %d up it stands at %d", ups, c.Offset())
		}
	}
	if ups != deep || c.Node() != x || len(c.Path()) != 0 {
		t.Errorf("P1013: %d nodes up", ups)
	}
	for c.Down(ahead) {
	}
	path := c.Path()
	if len(path) != deep || path[0] != ahead || path[deep-1] != ahead {
		t.Errorf("P1013: %d nodes down", len(path))
	}
	if c.Node() != bottom || c.Offset() != at {
		t.Errorf("P1013: it stands at %d", c.Offset())
	}
}

// TestDeepTo is P1013: to every place of a deep tree, one behind the other and back.
func TestDeepTo(t *testing.T) {
	s := tree.New()
	a, b := leaf(t, s, api.Leaf{Kind: 1, Len: 1}), leaf(t, s, api.Leaf{Kind: 2, Len: 1})
	x := chain(t, s, a, []*tree.Node{b}, []*tree.Node{b})
	c := x.Cursor()
	for at := range x.Width() {
		if !c.To(at) || c.Offset() != at || (c.Node() == a) != (at == deep) {
			t.Fatalf("P1013: To(%d) stands at %d", at, c.Offset())
		}
	}
	for at := x.Width() - 1; at >= 0; at-- {
		if !c.To(at) || c.Offset() != at {
			t.Fatalf("P1013: To(%d) stands at %d", at, c.Offset())
		}
	}
}
