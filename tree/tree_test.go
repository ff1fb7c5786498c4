package tree_test

import (
	"math"
	"slices"
	"testing"

	"graft/api"
	"graft/tree"
)

// leaf makes a leaf that can be made.
func leaf(t *testing.T, s *tree.Store, l api.Leaf) *tree.Node {
	t.Helper()
	n := s.Leaf(l)
	if n == nil {
		t.Fatalf("P1001: no node for %v", l)
	}
	return n
}

// node makes a node that can be made.
func node(t *testing.T, s *tree.Store, kind, n int, kids ...*tree.Node) *tree.Node {
	t.Helper()
	x, e := s.Make(kind, n, kids...)
	if x == nil || e != api.OK {
		t.Fatalf("P1002: Make(%d, %d, %d kids): %v", kind, n, len(kids), e)
	}
	return x
}

// refused wants an error of Make.
func refused(t *testing.T, s *tree.Store, want api.Errno, kind, n int, kids ...*tree.Node) {
	t.Helper()
	if x, e := s.Make(kind, n, kids...); x != nil || e != want {
		t.Errorf("P1002: Make(%d, %d, %d kids): %v, want %v", kind, n, len(kids), e, want)
	}
}

// sample is the trees of the chapter's examples.
func sample(t *testing.T) (s *tree.Store, a, b, x, y, z *tree.Node) {
	t.Helper()
	s = tree.New()
	a = leaf(t, s, api.Leaf{Kind: 0, Skip: 1, Len: 2, Reach: 5})
	b = leaf(t, s, api.Leaf{Kind: api.KBad, Skip: 0, Len: 1, Reach: 1})
	x = node(t, s, api.NInner, 3, a, b)
	y = node(t, s, api.NError, 0)
	z = node(t, s, api.NRoot, 0, x, y, x)
	return s, a, b, x, y, z
}

// step is what an iterator tells.
type step struct {
	at   int
	node *tree.Node
}

// wantSteps holds an iterator against what it should tell.
func wantSteps(t *testing.T, what string, each func(func(int, *tree.Node) bool), want ...step) {
	t.Helper()
	var got []step
	for at, n := range each {
		got = append(got, step{at, n})
	}
	if !slices.Equal(got, want) {
		t.Errorf("P1007: %s tells %v, want %v", what, got, want)
	}
}

// stands wants a cursor at a node, its place and its path.
func stands(t *testing.T, c *tree.Cursor, n *tree.Node, at int, path ...int) {
	t.Helper()
	if c.Node() != n || c.Offset() != at || !slices.Equal(c.Path(), path) {
		t.Fatalf("P1008: the cursor stands at %d by %v, at node %d; want %d by %v, node %d", c.Offset(), c.Path(), c.Node().Number(), at, path, n.Number())
	}
}

// TestExampleRows is example 1.
func TestExampleRows(t *testing.T) {
	_, a, b, x, y, z := sample(t)
	one, two, three, four := a.Number(), b.Number(), x.Number(), y.Number()
	want := []api.Row{
		{Kind: api.NRoot, Kids: 3, Id: z.Number()},
		{Kind: api.NInner, N: 3, Kids: 2, Id: three},
		{Kind: api.NLeaf, Skip: 1, Len: 2, Id: one},
		{Kind: api.NLeaf, N: -1, Len: 1, Id: two},
		{Kind: api.NError, Id: four},
		{Kind: api.NInner, N: 3, Kids: 2, Id: three},
		{Kind: api.NLeaf, Skip: 1, Len: 2, Id: one},
		{Kind: api.NLeaf, N: -1, Len: 1, Id: two},
	}
	if got := z.Rows(); !slices.Equal(got, want) {
		t.Errorf("P1006: %v, want %v", got, want)
	}
	if got := y.Rows(); !slices.Equal(got, want[4:5]) {
		t.Errorf("P1006: a node without children: %v", got)
	}
	if got := b.Rows(); !slices.Equal(got, want[3:4]) {
		t.Errorf("P1006: a leaf: %v", got)
	}
}

// TestExampleSums is example 2.
func TestExampleSums(t *testing.T) {
	_, a, b, x, y, z := sample(t)
	for _, c := range []struct {
		what               string
		n                  *tree.Node
		width, leafs, size int
		failed             bool
	}{
		{"a", a, 3, 1, 1, false},
		{"b", b, 1, 1, 1, true},
		{"x", x, 4, 2, 3, true},
		{"y", y, 0, 0, 1, true},
		{"z", z, 8, 4, 8, true},
	} {
		if c.n.Width() != c.width || c.n.Leafs() != c.leafs || c.n.Size() != c.size || c.n.Failed() != c.failed {
			t.Errorf("P1005: %s: %d bytes, %d leaves, %d rows, %v", c.what, c.n.Width(), c.n.Leafs(), c.n.Size(), c.n.Failed())
		}
	}
}

// TestExampleWalks is example 3.
func TestExampleWalks(t *testing.T) {
	_, a, b, x, y, z := sample(t)
	wantSteps(t, "Leaves", z.Leaves(), step{0, a}, step{3, b}, step{4, a}, step{7, b})
	wantSteps(t, "Walk", z.Walk(), step{0, z}, step{0, x}, step{0, a}, step{3, b}, step{4, y}, step{4, x}, step{4, a}, step{7, b})
	wantSteps(t, "Leaves of a leaf", b.Leaves(), step{0, b})
	wantSteps(t, "Walk of a leaf", b.Walk(), step{0, b})
	wantSteps(t, "Leaves of no leaf", y.Leaves())
	wantSteps(t, "Walk of no leaf", y.Walk(), step{0, y})
}

// TestExampleCursor is example 4.
func TestExampleCursor(t *testing.T) {
	_, a, b, x, y, z := sample(t)
	c := z.Cursor()
	stands(t, c, z, 0)
	if !c.To(5) {
		t.Error("P1010: To(5)")
	}
	stands(t, c, a, 4, 2, 0)
	if c.Left() {
		t.Error("P1009: left of the first child")
	}
	if !c.Up() {
		t.Error("P1009: Up")
	}
	stands(t, c, x, 4, 2)
	if !c.Left() {
		t.Error("P1009: Left")
	}
	stands(t, c, y, 4, 1)
	if c.Down(0) {
		t.Error("P1009: down where no child is")
	}
	if !c.Right() {
		t.Error("P1009: Right")
	}
	stands(t, c, x, 4, 2)
	if !c.Down(1) {
		t.Error("P1009: Down(1)")
	}
	stands(t, c, b, 7, 2, 1)
	if c.To(8) {
		t.Error("P1010: To(8)")
	}
	stands(t, c, b, 7, 2, 1)
	if !c.To(0) {
		t.Error("P1010: To(0)")
	}
	stands(t, c, a, 0, 0, 0)
}

// TestExampleRefused is example 5.
func TestExampleRefused(t *testing.T) {
	s, a, _, _, _, _ := sample(t)
	refused(t, s, api.ErrKind, api.NLeaf, 0)
	refused(t, s, api.ErrKind, api.NRoot, 1)
	refused(t, s, api.ErrKind, api.NInner, -1)
	refused(t, tree.New(), api.ErrKids, api.NRoot, 0, a)
}

// TestLeaf is P1001 and P1004: any leaf is told as it is, and numbers that no text has count as no bytes.
func TestLeaf(t *testing.T) {
	s := tree.New()
	for _, c := range []struct {
		l     api.Leaf
		width int
	}{
		{api.Leaf{}, 0},
		{api.Leaf{Kind: 7, Skip: 2, Len: 3, Reach: 9}, 5},
		{api.Leaf{Kind: api.KEnd, Skip: 4, Len: 0, Reach: 5}, 4},
		{api.Leaf{Kind: -40, Skip: -1, Len: 3, Reach: -7}, 3},
		{api.Leaf{Kind: 1 << 40, Skip: 3, Len: -1, Reach: 1 << 50}, 3},
		{api.Leaf{Skip: -1, Len: -1}, 0},
		{api.Leaf{Skip: math.MinInt, Len: 6}, 6},
		{api.Leaf{Skip: math.MinInt, Len: math.MinInt}, 0},
		{api.Leaf{Skip: api.MaxText, Len: api.MaxText}, 2 * api.MaxText},
		{api.Leaf{Skip: api.MaxText + 1, Len: api.MaxText}, api.MaxText},
		{api.Leaf{Skip: api.MaxText, Len: api.MaxText + 1}, api.MaxText},
		{api.Leaf{Skip: math.MaxInt, Len: 2}, 2},
		{api.Leaf{Skip: 2, Len: math.MaxInt}, 2},
		{api.Leaf{Kind: math.MinInt, Skip: math.MaxInt, Len: math.MaxInt, Reach: math.MinInt}, 0},
	} {
		n := leaf(t, s, c.l)
		if l, ok := n.Leaf(); l != c.l || !ok {
			t.Errorf("P1001: %v is told as %v, %v", c.l, l, ok)
		}
		if n.Width() != c.width {
			t.Errorf("P1001: %v has %d bytes, want %d", c.l, n.Width(), c.width)
		}
		if n.Kind() != api.NLeaf || n.N() != c.l.Kind || n.Count() != 0 || n.Leafs() != 1 || n.Size() != 1 || n.Failed() {
			t.Errorf("P1004: %v: kind %d, %d, %d kids, %d leaves, %d rows, %v", c.l, n.Kind(), n.N(), n.Count(), n.Leafs(), n.Size(), n.Failed())
		}
		want := []api.Row{{Kind: api.NLeaf, N: c.l.Kind, Skip: c.l.Skip, Len: c.l.Len, Id: n.Number()}}
		if got := n.Rows(); !slices.Equal(got, want) {
			t.Errorf("P1006: %v, want %v", got, want)
		}
		above := node(t, s, api.NInner, 1, n, n)
		if above.Width() != 2*c.width {
			t.Errorf("P1005: two of %v have %d bytes", c.l, above.Width())
		}
	}
}

// TestFailed is P1005: which nodes have failed by themselves, and that it is seen from above.
func TestFailed(t *testing.T) {
	s := tree.New()
	good := leaf(t, s, api.Leaf{Kind: 1, Len: 1})
	for _, c := range []struct {
		what string
		n    *tree.Node
		want bool
	}{
		{"a leaf", good, false},
		{"the end", leaf(t, s, api.Leaf{Kind: api.KEnd}), false},
		{"a leaf of no kind", leaf(t, s, api.Leaf{Kind: -3}), false},
		{"a bad leaf", leaf(t, s, api.Leaf{Kind: api.KBad, Len: 1}), true},
		{"a bad leaf of no bytes", leaf(t, s, api.Leaf{Kind: api.KBad}), true},
		{"an inner node", node(t, s, api.NInner, 0, good), false},
		{"an inner node over nothing", node(t, s, api.NInner, 5), false},
		{"an error node", node(t, s, api.NError, 0, good), true},
		{"an error node over nothing", node(t, s, api.NError, 0), true},
		{"a root", node(t, s, api.NRoot, 0, good), false},
		{"a broken root", node(t, s, api.NBroken, 0, good), true},
	} {
		if c.n.Failed() != c.want {
			t.Errorf("P1005: %s: failed %v", c.what, c.n.Failed())
		}
		for _, kids := range [][]*tree.Node{{c.n}, {c.n, good}, {good, c.n}, {good, c.n, good}} {
			if above := node(t, s, api.NRoot, 0, node(t, s, api.NInner, 2, kids...)); above.Failed() != c.want {
				t.Errorf("P1005: above %s: failed %v", c.what, above.Failed())
			}
		}
	}
}

// TestKinds is P1002: just these kinds, each with the numbers that it may have.
func TestKinds(t *testing.T) {
	s := tree.New()
	a := leaf(t, s, api.Leaf{Len: 1})
	for _, kind := range []int{math.MinInt, -2, -1, 0, api.NLeaf, api.NInner, api.NError, api.NRoot, api.NBroken, 6, 7, math.MaxInt} {
		for _, n := range []int{math.MinInt, -2, -1, 0, 1, 2, 511, 512, math.MaxInt} {
			may := kind == api.NInner && n >= 0 || (kind == api.NError || kind == api.NRoot || kind == api.NBroken) && n == 0
			if !may {
				refused(t, s, api.ErrKind, kind, n)
				refused(t, s, api.ErrKind, kind, n, a, a)
				continue
			}
			for _, kids := range [][]*tree.Node{nil, {}, {a}, {a, a, a}} {
				x := node(t, s, kind, n, kids...)
				l, ok := x.Leaf()
				if x.Kind() != kind || x.N() != n || x.Count() != len(kids) || l != (api.Leaf{}) || ok {
					t.Errorf("P1004: Make(%d, %d): kind %d, %d, %d kids, leaf %v %v", kind, n, x.Kind(), x.N(), x.Count(), l, ok)
				}
				want := api.Row{Kind: kind, N: n, Kids: len(kids), Id: x.Number()}
				if got := x.Rows(); len(got) != 1+len(kids) || got[0] != want {
					t.Errorf("P1006: %v, want %v", got, want)
				}
			}
		}
	}
}

// TestStores is P1002: a kid of another store is refused wherever it stands among the kids, also one that looks the same.
func TestStores(t *testing.T) {
	s, o := tree.New(), tree.New()
	l := api.Leaf{Len: 1}
	a, b := leaf(t, s, l), leaf(t, o, l)
	if a == b {
		t.Error("P1003: two stores have one node")
	}
	x, y := node(t, s, api.NInner, 0, a), node(t, o, api.NInner, 0, b)
	for _, kids := range [][]*tree.Node{{b}, {y}, {b, a}, {a, b}, {a, x, y}, {y, x, a}, {x, b, x}} {
		refused(t, s, api.ErrKids, api.NInner, 0, kids...)
	}
	for _, kids := range [][]*tree.Node{{a}, {x}, {b, a}, {a, b}, {b, y, x}} {
		refused(t, o, api.ErrKids, api.NError, 0, kids...)
	}
	node(t, s, api.NInner, 0, a, x)
	node(t, o, api.NInner, 0, b, y)
}

// double is a tree of 2 to the n rows, less one, out of n nodes.
func double(t *testing.T, s *tree.Store, n int) *tree.Node {
	t.Helper()
	x := node(t, s, api.NInner, 0)
	for range n - 1 {
		x = node(t, s, api.NInner, 0, x, x)
	}
	return x
}

// TestFull is P1002: MaxRows rows are taken, one more is not.
func TestFull(t *testing.T) {
	s := tree.New()
	x := double(t, s, 22)
	if x.Size() != api.MaxRows-1 {
		t.Fatalf("P1005: %d rows", x.Size())
	}
	a := leaf(t, s, api.Leaf{Len: 1})
	full := node(t, s, api.NRoot, 0, x)
	if full.Size() != api.MaxRows {
		t.Errorf("P1005: %d rows", full.Size())
	}
	refused(t, s, api.ErrFull, api.NRoot, 0, full)
	refused(t, s, api.ErrFull, api.NInner, 7, x, a)
	refused(t, s, api.ErrFull, api.NError, 0, a, x)
	refused(t, s, api.ErrFull, api.NBroken, 0, x, x)
	half := double(t, s, 21) // 1<<21 - 1 rows
	node(t, s, api.NInner, 0, half, half, a)
	node(t, s, api.NInner, 0, a, half, half)
	refused(t, s, api.ErrFull, api.NInner, 0, half, half, a, a)
	refused(t, s, api.ErrFull, api.NInner, 0, slices.Repeat([]*tree.Node{full}, 5000)...)
	n := 0
	for range full.Walk() {
		n++
	}
	if n != api.MaxRows || len(full.Rows()) != api.MaxRows {
		t.Errorf("P1011: Walk tells %d", n)
	}
}

// TestFullOfKids is P1002 and P1010: as many kids as there may be rows, and one more; a cursor finds each of them.
func TestFullOfKids(t *testing.T) {
	s := tree.New()
	a, none := leaf(t, s, api.Leaf{Skip: 1, Len: 1}), leaf(t, s, api.Leaf{})
	kids := slices.Repeat([]*tree.Node{none, a}, api.MaxRows/2)
	refused(t, s, api.ErrFull, api.NBroken, 0, kids...)
	x := node(t, s, api.NBroken, 0, kids[1:]...)
	if x.Size() != api.MaxRows || x.Leafs() != api.MaxRows-1 || x.Width() != api.MaxRows {
		t.Fatalf("P1005: %d rows, %d leaves, %d bytes", x.Size(), x.Leafs(), x.Width())
	}
	c := x.Cursor()
	for at := x.Width() - 1; at >= 0; at -= 7 {
		if !c.To(at) {
			t.Fatalf("P1010: To(%d)", at)
		}
		stands(t, c, a, at&^1, at&^1)
		if at > 1 && !c.Left() {
			t.Fatal("P1009: Left")
		}
		if at > 1 {
			stands(t, c, none, at&^1, at&^1-1)
		}
		if !c.Up() || !c.Down(at/2) {
			t.Fatalf("P1009: Down(%d)", at/2)
		}
	}
}

// TestErrorsInOrder is P5: the kind ahead of the kids, the kids ahead of the room.
func TestErrorsInOrder(t *testing.T) {
	s := tree.New()
	other := leaf(t, tree.New(), api.Leaf{})
	full := node(t, s, api.NRoot, 0, double(t, s, 22))
	for _, c := range []struct{ kind, n int }{{0, 0}, {api.NLeaf, 0}, {6, 0}, {api.NInner, -1}, {api.NError, 1}, {api.NRoot, -1}, {api.NBroken, 9}} {
		refused(t, s, api.ErrKind, c.kind, c.n, other)
		refused(t, s, api.ErrKind, c.kind, c.n, full, full)
		refused(t, s, api.ErrKind, c.kind, c.n, full, other)
	}
	refused(t, s, api.ErrKids, api.NInner, 0, full, other)
	refused(t, s, api.ErrKids, api.NInner, 0, other, full)
	refused(t, s, api.ErrKids, api.NError, 0, full, full, full, other)
	refused(t, s, api.ErrFull, api.NError, 0, full)
}

// TestRefusedChangeNothing is P4: what was refused is not seen in what is made behind it.
func TestRefusedChangeNothing(t *testing.T) {
	numbers := func(try bool) []int {
		s := tree.New()
		a := leaf(t, s, api.Leaf{})
		full := node(t, s, api.NRoot, 0, double(t, s, 22))
		if try {
			refused(t, s, api.ErrKind, api.NLeaf, 0, a)
			refused(t, s, api.ErrKids, api.NRoot, 0, leaf(t, tree.New(), api.Leaf{}))
			refused(t, s, api.ErrFull, api.NRoot, 0, full, a)
		}
		return []int{a.Number(), full.Number(), leaf(t, s, api.Leaf{}).Number(), node(t, s, api.NError, 0, a).Number()}
	}
	if a, b := numbers(false), numbers(true); !slices.Equal(a, b) {
		t.Errorf("P4: numbers %v, and with refused calls between %v", a, b)
	}
}

// TestNumbers is P1003: many nodes of one store, each with its own number, always the same one.
func TestNumbers(t *testing.T) {
	s := tree.New()
	owner := map[int]*tree.Node{}
	var all []*tree.Node
	for i := range 60000 {
		x := leaf(t, s, api.Leaf{Kind: i % 3, Len: 1})
		if i%3 == 1 {
			x = node(t, s, api.NInner, 0, all[i-1], all[i/2])
		}
		if i%3 == 2 {
			x = node(t, s, api.NError, 0)
		}
		all = append(all, x)
	}
	first := make([]int, len(all))
	for i, x := range all {
		first[i] = x.Number()
		if first[i] < 1 || owner[first[i]] != nil {
			t.Fatalf("P1003: node %d has the number %d", i, first[i])
		}
		owner[first[i]] = x
		x.Rows()
	}
	for i, x := range all {
		if x.Number() != first[i] {
			t.Fatalf("P1003: node %d had the number %d, and now %d", i, first[i], x.Number())
		}
	}
}

// TestOnePointer is P1003: whichever call tells a node, it is the pointer that Make answered; nodes that look the same are not.
func TestOnePointer(t *testing.T) {
	s, a, b, x, y, z := sample(t)
	for range 2 {
		for i, want := range []*tree.Node{x, y, x} {
			if got, ok := z.Kid(i); got != want || !ok {
				t.Errorf("P1003: kid %d is another node", i)
			}
		}
		c := z.Cursor()
		if c.Node() != z || !c.Down(2) || c.Node() != x || !c.Down(1) || c.Node() != b || !c.Left() || c.Node() != a {
			t.Error("P1003: the cursor stands at another node")
		}
	}
	c := leaf(t, s, api.Leaf{Kind: 0, Skip: 1, Len: 2, Reach: 5})
	if c == a || c.Number() == a.Number() {
		t.Error("P1003: two leaves are one node")
	}
	if again := node(t, s, api.NInner, 3, a, b); again == x || again.Number() == x.Number() {
		t.Error("P1003: two nodes over the same children are one node")
	}
}

// TestKid is P1004: children, and numbers that none has.
func TestKid(t *testing.T) {
	_, a, b, x, y, z := sample(t)
	for _, c := range []struct {
		n    *tree.Node
		kids []*tree.Node
	}{{a, nil}, {x, []*tree.Node{a, b}}, {y, nil}, {z, []*tree.Node{x, y, x}}} {
		if c.n.Count() != len(c.kids) {
			t.Errorf("P1004: %d kids, want %d", c.n.Count(), len(c.kids))
		}
		for i, want := range c.kids {
			if got, ok := c.n.Kid(i); got != want || !ok {
				t.Errorf("P1004: Kid(%d): %v, %v", i, got, ok)
			}
		}
		for _, i := range []int{math.MinInt, -2, -1, len(c.kids), len(c.kids) + 1, math.MaxInt} {
			if got, ok := c.n.Kid(i); got != nil || ok {
				t.Errorf("P1004: Kid(%d) of %d: %v, %v", i, len(c.kids), got, ok)
			}
		}
	}
}
