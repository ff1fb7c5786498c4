package delta_test

import (
	"slices"
	"testing"

	"graft/api"
	"graft/delta"
	"graft/tree"
)

// grove makes nodes out of one store.
type grove struct {
	t *testing.T
	m *tree.Store
}

func newGrove(t *testing.T) grove { return grove{t, tree.New()} }

// leaf makes a leaf of so many bytes.
func (g grove) leaf(bytes int) *tree.Node { return g.m.Leaf(api.Leaf{Len: bytes}) }

// node makes a node that can be made.
func (g grove) node(kind, n int, kids ...*tree.Node) *tree.Node {
	g.t.Helper()
	x, e := g.m.Make(kind, n, kids...)
	if x == nil || e != api.OK {
		g.t.Fatalf("Make(%d, %d, %d kids): %v", kind, n, len(kids), e)
	}
	return x
}

// over makes an error node.
func (g grove) over(kids ...*tree.Node) *tree.Node {
	g.t.Helper()
	return g.node(api.NError, 0, kids...)
}

// wantLeaves holds Leaves and Ranges against what they should tell.
func wantLeaves(t *testing.T, what string, a, b *tree.Node, hunks []api.Hunk, spans []api.Span) {
	t.Helper()
	if got := delta.Leaves(a, b); !slices.Equal(got, hunks) {
		t.Errorf("P1501: %s: %v, want %v", what, got, hunks)
	}
	if got := slices.Collect(delta.Ranges(a, b)); !slices.Equal(got, spans) {
		t.Errorf("P1502: %s: %v, want %v", what, got, spans)
	}
}

// wantMove holds Move against what it should tell.
func wantMove(t *testing.T, place, bias int, edits []api.Edit, want int, e api.Errno) {
	t.Helper()
	if got, err := delta.Move(place, bias, edits); got != want || err != e {
		t.Errorf("P1503: Move(%d, %d, %d edits): %d %v, want %d %v", place, bias, len(edits), got, err, want, e)
	}
}

// wantApply wants an error of Apply, or a tree.
func wantApply(t *testing.T, what string, m *tree.Store, a *tree.Node, e api.Errno, l ...api.Op) *tree.Node {
	t.Helper()
	n, err := delta.Apply(m, a, l)
	if err != e || (n != nil) != (e == api.OK) {
		t.Errorf("P1505: %s: %v, want %v", what, err, e)
	}
	return n
}

// The steps of scripts.
func keep(n *tree.Node) api.Op             { return api.Op{Do: api.OKeep, Id: n.Number()} }
func put(l api.Leaf) api.Op                { return api.Op{Do: api.OLeaf, Leaf: l} }
func join(kind, n, kids int) api.Op        { return api.Op{Do: api.OMake, Kind: kind, N: n, Kids: kids} }
func edit(at, del int, in string) api.Edit { return api.Edit{At: at, Del: del, Ins: []byte(in)} }

// TestExampleLeaves is examples 1 and 2.
func TestExampleLeaves(t *testing.T) {
	g := newGrove(t)
	x, y, z, w := g.leaf(2), g.leaf(2), g.leaf(2), g.leaf(3)
	a := g.over(x, y, z)
	wantLeaves(t, "x z", a, g.over(x, z), []api.Hunk{{From: 1, To: 2, Into: 1, Upto: 1}}, nil)
	wantLeaves(t, "x w z", a, g.over(x, w, z), []api.Hunk{{From: 1, To: 2, Into: 1, Upto: 2}}, []api.Span{{From: 2, To: 5}})
	wantLeaves(t, "w x y z w", a, g.over(w, x, y, z, w), []api.Hunk{{From: 0, To: 0, Into: 0, Upto: 1}, {From: 3, To: 3, Into: 4, Upto: 5}}, []api.Span{{From: 0, To: 3}, {From: 9, To: 12}})
	wantLeaves(t, "z y x", a, g.over(z, y, x), []api.Hunk{{From: 0, To: 0, Into: 0, Upto: 2}, {From: 1, To: 3, Into: 3, Upto: 3}}, []api.Span{{From: 0, To: 4}})
}

// TestExampleMove is example 3.
func TestExampleMove(t *testing.T) {
	abc := []api.Edit{edit(4, 2, "abc")}
	wantMove(t, 5, 0, abc, 7, api.OK)
	wantMove(t, 5, -1, abc, 4, api.OK)
	wantMove(t, 4, -1, []api.Edit{edit(4, 0, "x")}, 4, api.OK)
	wantMove(t, 4, 0, []api.Edit{edit(4, 0, "x")}, 5, api.OK)
	wantMove(t, 9, 0, abc, 10, api.OK)
	wantMove(t, 3, 0, abc, 3, api.OK)
	wantMove(t, -1, 0, abc, 0, api.ErrPlace)
}

// TestExampleScript is example 4.
func TestExampleScript(t *testing.T) {
	g := newGrove(t)
	x, y, z, w := g.leaf(2), g.leaf(2), g.leaf(2), g.leaf(3)
	a := g.over(x, y, z)
	got := delta.Script(a, g.over(x, w, z))
	if want := []api.Op{keep(x), put(api.Leaf{Len: 3}), keep(z), join(api.NError, 0, 3)}; !slices.Equal(got, want) {
		t.Errorf("P1504: %v, want %v", got, want)
	}
	wantApply(t, "no steps", g.m, a, api.ErrOp)
	wantApply(t, "two nodes", g.m, a, api.ErrOp, keep(x), keep(x))
	wantApply(t, "a child that is not there", g.m, a, api.ErrOp, join(api.NError, 0, 1))
}
