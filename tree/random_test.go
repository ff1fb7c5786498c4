package tree_test

import (
	"math"
	"math/rand"
	"slices"
	"testing"

	"graft/api"
	"graft/tree"
)

// byKid sums a tree up by Count, Kid, Kind and Leaf alone.
func byKid(n *tree.Node) (width, leafs, size int, failed bool) {
	size, failed = 1, n.Kind() == api.NError || n.Kind() == api.NBroken
	if l, ok := n.Leaf(); ok {
		for _, part := range []int{l.Skip, l.Len} {
			if part >= 0 && part <= api.MaxText {
				width += part
			}
		}
		leafs, failed = 1, l.Kind == api.KBad
	}
	for i := range n.Count() {
		k, _ := n.Kid(i)
		w, l, s, f := byKid(k)
		width, leafs, size, failed = width+w, leafs+l, size+s, failed || f
	}
	return width, leafs, size, failed
}

// wantAsked holds all that a node tells of itself against the model.
func wantAsked(t *testing.T, p *plain) {
	t.Helper()
	n := p.node
	l, ok := n.Leaf()
	if n.Kind() != p.kind || n.N() != p.n || l != p.leaf || ok != (p.kind == api.NLeaf) || n.Count() != len(p.kids) {
		t.Errorf("P1004: %s: kind %d, %d, leaf %v %v, %d kids", p.text(), n.Kind(), n.N(), l, ok, n.Count())
	}
	for i, k := range p.kids {
		if got, ok := n.Kid(i); got != k.node || !ok {
			t.Errorf("P1004: %s: kid %d", p.text(), i)
		}
	}
	if n.Width() != p.bytes() || n.Leafs() != p.leafs() || n.Size() != p.size() || n.Failed() != p.failed() {
		t.Errorf("P1005: %s: %d bytes, %d leaves, %d rows, failed %v", p.text(), n.Width(), n.Leafs(), n.Size(), n.Failed())
	}
	if width, leafs, size, failed := byKid(n); n.Width() != width || n.Leafs() != leafs || n.Size() != size || n.Failed() != failed {
		t.Errorf("P1005: %s: by its kids %d bytes, %d leaves, %d rows, failed %v", p.text(), width, leafs, size, failed)
	}
}

// wantGone holds Walk, Leaves and Rows against the model, and against each other.
func wantGone(t *testing.T, p *plain) {
	t.Helper()
	all := p.spots()
	var walk, leaves []step
	var rows []api.Row
	for _, s := range all {
		walk, rows = append(walk, step{s.at, s.of.node}), append(rows, s.of.row())
	}
	for _, s := range leafed(all) {
		leaves = append(leaves, step{s.at, s.of.node})
	}
	wantSteps(t, "Walk of "+p.text(), p.node.Walk(), walk...)
	wantSteps(t, "Leaves of "+p.text(), p.node.Leaves(), leaves...)
	if got := p.node.Rows(); !slices.Equal(got, rows) {
		t.Errorf("P1006: %s: %v, want %v", p.text(), got, rows)
	}
	if len(rows) != p.node.Size() || len(leaves) != p.node.Leafs() {
		t.Errorf("P1011: %s: %d rows, %d leaves, told as %d, %d", p.text(), len(rows), len(leaves), p.node.Size(), p.node.Leafs())
	}
}

// TestAsked holds what nodes tell against the model, in groves in which trees share what hangs below them.
func TestAsked(t *testing.T) {
	r := rand.New(rand.NewSource(1001))
	shared, failed, wide, inOrder := 0, 0, 0, 0
	for round := range 60 {
		g := newGrove(t)
		for range 60 {
			p := g.grow(r, round%2 == 0)
			wantAsked(t, p)
			wantGone(t, p)
			sum, ordered := 0, true
			ids := map[int]bool{}
			for _, row := range p.node.Rows() {
				sum += row.Skip + row.Len
				ordered = ordered && row.Skip >= 0 && row.Len >= 0 && row.Skip <= api.MaxText && row.Len <= api.MaxText
				ids[row.Id] = true
			}
			if ordered && sum != p.node.Width() {
				t.Errorf("P1011: %s: %d bytes by its rows, %d told", p.text(), sum, p.node.Width())
			}
			if len(ids) < p.size() {
				shared++
			}
			if p.failed() {
				failed++
			}
			if p.size() > 20 {
				wide++
			}
			if ordered && sum > 0 {
				inOrder++
			}
		}
		for _, p := range g.all { // nothing that was made later has changed them
			wantAsked(t, p)
			wantGone(t, p)
		}
	}
	if shared < 300 || failed < 300 || failed > 3300 || wide < 300 || inOrder < 300 {
		t.Errorf("too few trees: %d with a node twice, %d failed, %d great ones, %d in order", shared, failed, wide, inOrder)
	}
}

// edges are the places of a tree at which To might go wrong.
func edges(l []spot) []int {
	places := []int{math.MinInt, math.MinInt + 1, -2, -1, 0, 1, math.MaxInt - 1, math.MaxInt}
	for _, s := range leafed(l) {
		w := s.of.bytes()
		places = append(places, s.at-1, s.at, s.at+1, s.at+w-1, s.at+w, s.at+w+1)
	}
	slices.Sort(places)
	return slices.Compact(places)
}

// wantMark holds where a cursor stands against the model.
func wantMark(t *testing.T, c *tree.Cursor, m *mark) {
	t.Helper()
	s := m.all[m.is]
	stands(t, c, s.of.node, s.at, s.path...)
}

// toEverywhere goes from each place of a tree to each leaf, and to places that are none.
func toEverywhere(t *testing.T, p *plain) (found, missed int) {
	t.Helper()
	m := &mark{all: p.spots()}
	places := edges(m.all)
	for from := range m.all {
		for _, at := range places {
			c := p.node.Cursor()
			for i, which := range m.all[from].path {
				if !c.Down(which) {
					t.Fatalf("P1012: %s: Down %d of %v", p.text(), i, m.all[from].path)
				}
			}
			m.is = from
			wantMark(t, c, m)
			want := m.to(at)
			if got := c.To(at); got != want {
				t.Fatalf("P1010: %s: To(%d) from %v: %v", p.text(), at, m.all[from].path, got)
			}
			wantMark(t, c, m)
			if want != (at >= 0 && at < p.bytes()) {
				t.Fatalf("P1010: %s: the place %d", p.text(), at)
			}
			if want {
				found++
			} else {
				missed++
			}
		}
	}
	return found, missed
}

// TestToEverywhere is P1010 on random trees.
func TestToEverywhere(t *testing.T) {
	r := rand.New(rand.NewSource(1010))
	found, missed := 0, 0
	for round := range 12 {
		g := newGrove(t)
		for range 40 {
			if p := g.grow(r, round%2 == 0); p.size() < 25 {
				f, m := toEverywhere(t, p)
				found, missed = found+f, missed+m
			}
		}
	}
	if found < 5000 || missed < 5000 {
		t.Errorf("too few places: %d of leaves, %d of none", found, missed)
	}
}

// pair is a cursor with what the model has of it.
type pair struct {
	c *tree.Cursor
	m *mark
}

// move does one random move with both, and tells its name if it went.
func (p pair) move(t *testing.T, r *rand.Rand, places []int) string {
	t.Helper()
	what, got, want := "", false, false
	switch r.Intn(7) {
	case 0, 1:
		i := r.Intn(7) - 1
		what, got, want = "Down", p.c.Down(i), p.m.down(i)
	case 2:
		what, got, want = "Up", p.c.Up(), p.m.up()
	case 3, 4:
		what, got, want = "Right", p.c.Right(), p.m.aside(1)
	case 5:
		what, got, want = "Left", p.c.Left(), p.m.aside(-1)
	case 6:
		at := places[r.Intn(len(places))]
		what, got, want = "To", p.c.To(at), p.m.to(at)
	}
	if got != want {
		t.Fatalf("P1009: %s answers %v", what, got)
	}
	if !got {
		return "not " + what
	}
	return what
}

// TestMoves holds cursors against the model, three of one tree and one of a tree below it in turns.
func TestMoves(t *testing.T) {
	r := rand.New(rand.NewSource(1009))
	met := map[string]int{}
	for range 150 {
		g := newGrove(t)
		var p *plain
		for range 40 {
			p = g.grow(r, false)
		}
		for p.kind == api.NLeaf || len(p.kids) == 0 {
			p = g.grow(r, false)
		}
		all, below := p.spots(), p.kids[0].spots()
		pairs := []pair{{p.node.Cursor(), &mark{all: all}}, {p.node.Cursor(), &mark{all: all}}, {p.node.Cursor(), &mark{all: all}}, {p.kids[0].node.Cursor(), &mark{all: below}}}
		places := edges(all)
		for range 120 {
			met[pairs[r.Intn(len(pairs))].move(t, r, places)]++
			for _, x := range pairs {
				wantMark(t, x.c, x.m)
			}
		}
	}
	for _, what := range []string{"Down", "Up", "Right", "Left", "To"} {
		if met[what] < 300 || met["not "+what] < 300 {
			t.Errorf("too few moves: %s %d, and %d that did not go", what, met[what], met["not "+what])
		}
	}
}

// TestBackAgain is P1012: Down then Up, and Right then Left, at each place of random trees.
func TestBackAgain(t *testing.T) {
	r := rand.New(rand.NewSource(1012))
	downs, rights := 0, 0
	for range 20 {
		g := newGrove(t)
		for range 40 {
			p := g.grow(r, true)
			c := p.node.Cursor()
			for _, s := range p.spots() {
				for c.Up() {
				}
				for _, which := range s.path {
					c.Down(which)
				}
				stands(t, c, s.of.node, s.at, s.path...)
				for i := range s.of.kids {
					if !c.Down(i) || !c.Up() {
						t.Fatal("P1012: Down, then Up")
					}
					stands(t, c, s.of.node, s.at, s.path...)
					downs++
				}
				if c.Right() {
					c.Left()
					rights++
				}
				stands(t, c, s.of.node, s.at, s.path...)
			}
		}
	}
	if downs < 2000 || rights < 2000 {
		t.Errorf("too few ways: %d down, %d right", downs, rights)
	}
}

// remade makes a tree anew out of its rows alone, in another store, and tells how many rows it took.
func remade(t *testing.T, s *tree.Store, l []api.Row) (*tree.Node, int) {
	t.Helper()
	top, used := l[0], 1
	if top.Kind == api.NLeaf {
		return leaf(t, s, api.Leaf{Kind: top.N, Skip: top.Skip, Len: top.Len}), 1
	}
	var kids []*tree.Node
	for range top.Kids {
		k, n := remade(t, s, l[used:])
		kids, used = append(kids, k), used+n
	}
	return node(t, s, top.Kind, top.N, kids...), used
}

// nameless are rows without their Ids.
func nameless(l []api.Row) []api.Row {
	l = slices.Clone(l)
	for i := range l {
		l[i].Id = 0
	}
	return l
}

// TestRowsTell is P1011: a tree that is made out of rows has these rows, and is alike in all but the Reach of leaves.
func TestRowsTell(t *testing.T) {
	r := rand.New(rand.NewSource(1011))
	for round := range 20 {
		g := newGrove(t)
		for range 60 {
			p := g.grow(r, round%2 == 0)
			rows := p.node.Rows()
			n, used := remade(t, tree.New(), rows)
			if used != len(rows) || !slices.Equal(nameless(n.Rows()), nameless(rows)) {
				t.Errorf("P1011: %s: made anew out of %d of its rows: %v", p.text(), used, n.Rows())
			}
			if n.Width() != p.bytes() || n.Leafs() != p.leafs() || n.Failed() != p.failed() {
				t.Errorf("P1011: %s, made anew, is unlike", p.text())
			}
		}
	}
}

// TestUnlike is P1011: of all small trees over a few nodes no two have the same rows.
func TestUnlike(t *testing.T) {
	g := newGrove(t)
	bySize := [][]*plain{nil, nil}
	for _, l := range []api.Leaf{{}, {Skip: 1}, {Len: 1}, {Kind: 1}, {Kind: api.KBad}, {Skip: -1}} {
		bySize[1] = append(bySize[1], g.leaf(l))
	}
	tops := [][2]int{{api.NInner, 0}, {api.NInner, 1}, {api.NError, 0}, {api.NRoot, 0}, {api.NBroken, 0}}
	for _, k := range tops {
		bySize[1] = append(bySize[1], g.over(k[0], k[1]))
	}
	for size := 2; size <= 4; size++ {
		var made []*plain
		for _, kids := range rowsOf(bySize, size-1) {
			for _, k := range tops {
				made = append(made, g.over(k[0], k[1], kids...))
			}
		}
		bySize = append(bySize, made)
	}
	seen := map[string]string{}
	for _, p := range g.all {
		key := ""
		for _, row := range p.node.Rows() {
			row.Id = 0
			key += (&plain{kind: row.Kind, n: row.N, leaf: api.Leaf{Skip: row.Skip, Len: row.Len}}).text() + string(rune('a'+row.Kids))
		}
		if other, ok := seen[key]; ok {
			t.Fatalf("P1011: %s and %s have the same rows", p.text(), other)
		}
		seen[key] = p.text()
	}
	if len(seen) < 10000 {
		t.Errorf("too few trees: %d", len(seen))
	}
}

// rowsOf are all rows of trees that have together so many rows.
func rowsOf(bySize [][]*plain, size int) [][]*plain {
	if size == 0 {
		return [][]*plain{nil}
	}
	var out [][]*plain
	for first := 1; first <= size; first++ {
		for _, p := range bySize[first] {
			for _, rest := range rowsOf(bySize, size-first) {
				out = append(out, append([]*plain{p}, rest...))
			}
		}
	}
	return out
}

// TestReachUntold is P1011: leaves that are unlike in Reach alone have the same rows, and are told with their own.
func TestReachUntold(t *testing.T) {
	s := tree.New()
	a, b := leaf(t, s, api.Leaf{Kind: 1, Skip: 1, Len: 1, Reach: 2}), leaf(t, s, api.Leaf{Kind: 1, Skip: 1, Len: 1, Reach: 9})
	if !slices.Equal(nameless(a.Rows()), nameless(b.Rows())) {
		t.Error("P1011: Reach is seen in rows")
	}
	if l, _ := b.Leaf(); l.Reach != 9 {
		t.Errorf("P1004: the leaf is told as %v", l)
	}
}
