package tree_test

import (
	"slices"
	"testing"

	"graft/api"
	"graft/tree"
)

// whole is a list with all its room.
func whole[T any](l []T) []T { return l[:cap(l)] }

// spoil writes over a list with all its room.
func spoil[T any](l []T, with T) {
	for i := range whole(l) {
		whole(l)[i] = with
	}
}

// TestKidsStay is P2: the list that is handed to Make, and its spare room, stay as they were, whether it is taken or refused.
func TestKidsStay(t *testing.T) {
	s, a, b, x, y, z := sample(t)
	full := node(t, s, api.NRoot, 0, double(t, s, 22))
	other := leaf(t, tree.New(), api.Leaf{})
	for _, kids := range [][]*tree.Node{nil, {a}, {a, b}, {x, y, x, z}, {full}, {a, full}, {other}, {a, other, b}} {
		for _, kind := range []int{api.NLeaf, api.NInner, api.NError, api.NRoot, api.NBroken} {
			l := append(slices.Clone(kids), z, nil, a)[:len(kids)]
			before := slices.Clone(whole(l))
			s.Make(kind, 0, l...)
			if !slices.Equal(whole(l), before) {
				t.Errorf("P2: Make(%d) changed the list of %d kids", kind, len(kids))
			}
		}
	}
}

// TestKidsNotKept is P1002: to write over the list behind Make, its spare room too, changes nothing of the node.
func TestKidsNotKept(t *testing.T) {
	s, a, b, x, y, z := sample(t)
	kids := make([]*tree.Node, 0, 9)
	kids = append(kids, x, y, x)
	n := node(t, s, api.NRoot, 0, kids...)
	c := n.Cursor()
	c.Down(1)
	spoil(kids, a)
	for i, want := range []*tree.Node{x, y, x} {
		if got, ok := n.Kid(i); got != want || !ok {
			t.Errorf("P1002: kid %d hangs on the list", i)
		}
	}
	if n.Count() != 3 || n.Width() != z.Width() || n.Size() != z.Size() || n.Leafs() != z.Leafs() || !slices.Equal(n.Rows()[1:], z.Rows()[1:]) {
		t.Error("P1002: the node hangs on the list")
	}
	wantSteps(t, "Leaves", n.Leaves(), step{0, a}, step{3, b}, step{4, a}, step{7, b})
	if !c.Right() {
		t.Error("P1002: the cursor hangs on the list")
	}
	stands(t, c, x, 4, 2)
}

// TestOneListForMany is P2: nodes made over one list, and over pieces of it, do not see one another.
func TestOneListForMany(t *testing.T) {
	s, a, b, x, y, _ := sample(t)
	list := []*tree.Node{a, b, x, y}
	var made []*tree.Node
	for to := range len(list) + 1 {
		made = append(made, node(t, s, api.NInner, to, list[:to]...))
	}
	list[0] = y
	last := node(t, s, api.NInner, 9, list...)
	for to, n := range made {
		if n.Count() != to {
			t.Errorf("P2: %d kids, want %d", n.Count(), to)
		}
		if k, ok := n.Kid(0); ok && k != a {
			t.Error("P2: the first kid has changed")
		}
	}
	if k, _ := last.Kid(0); k != y {
		t.Error("P1002: the first kid is another")
	}
}

// TestRowsAreOwn is P2: rows are new memory each time, their spare room too.
func TestRowsAreOwn(t *testing.T) {
	_, a, _, x, y, z := sample(t)
	for _, n := range []*tree.Node{a, x, y, z} {
		want := slices.Clone(n.Rows())
		first, second := n.Rows(), n.Rows()
		spoil(first, api.Row{Kind: -9, Kids: 77})
		if !slices.Equal(second, want) || !slices.Equal(n.Rows(), want) {
			t.Error("P2: rows hang on other rows")
		}
		spoil(second, api.Row{Id: 5})
		if !slices.Equal(n.Rows(), want) || n.Count() != want[0].Kids || n.Number() != want[0].Id {
			t.Error("P2: the node hangs on its rows")
		}
	}
	if got := len(z.Rows()); got != 8 {
		t.Errorf("P2: %d rows", got)
	}
}

// TestRowsWhileWalking is P2: rows that are written over while a walk is open do not change it.
func TestRowsWhileWalking(t *testing.T) {
	_, _, _, _, _, z := sample(t)
	want := gone(z.Walk())
	var got []step
	for at, n := range z.Walk() {
		got = append(got, step{at, n})
		spoil(n.Rows(), api.Row{})
		spoil(z.Rows(), api.Row{})
	}
	if !slices.Equal(got, want) {
		t.Errorf("P2: %v, want %v", got, want)
	}
}

// TestPathsAreOwn is P2: paths are new memory each time, their spare room too; to write over one does not move the cursor, and to move it does not change them.
func TestPathsAreOwn(t *testing.T) {
	_, a, b, x, y, z := sample(t)
	c := z.Cursor()
	spoil(c.Path(), 5)
	stands(t, c, z, 0)
	c.To(5)
	first, second := c.Path(), c.Path()
	spoil(first, 9)
	if !slices.Equal(second, []int{2, 0}) {
		t.Errorf("P2: a path hangs on another: %v", second)
	}
	stands(t, c, a, 4, 2, 0)
	c.Right()
	stands(t, c, b, 7, 2, 1)
	c.Up()
	c.Left()
	stands(t, c, y, 4, 1)
	if !slices.Equal(second, []int{2, 0}) {
		t.Errorf("P2: a path moves with the cursor: %v", second)
	}
	spoil(second, 9)
	c.Right()
	stands(t, c, x, 4, 2)
	c.Down(0)
	stands(t, c, a, 4, 2, 0)
}
