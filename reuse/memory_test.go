package reuse_test

import (
	"slices"
	"testing"

	"graft/api"
	"graft/reuse"
	"graft/tree"
)

// answers is all that a node answers of itself, at a place of a tree; of a leaf also which of the leaves it is.
type answers struct {
	node               *tree.Node
	at, nth            int
	number, kind, n    int
	leaf               api.Leaf
	isLeaf, failed     bool
	width, leafs, size int
	kids               [4]*tree.Node // the first ones
	count              int
}

// portrait is what all nodes of a tree answer, by Walk and then by Leaves.
func portrait(n *tree.Node) (out []answers) {
	for at, below := range n.Walk() {
		out = append(out, ask(below, at, -1))
	}
	nth := 0
	for at, leaf := range n.Leaves() {
		out = append(out, ask(leaf, at, nth))
		nth++
	}
	return out
}

func ask(n *tree.Node, at, nth int) answers {
	a := answers{node: n, at: at, nth: nth, number: n.Number(), kind: n.Kind(), n: n.N(), failed: n.Failed(), width: n.Width(), leafs: n.Leafs(), size: n.Size(), count: n.Count()}
	a.leaf, a.isLeaf = n.Leaf()
	for i := range a.kids {
		a.kids[i], _ = n.Kid(i)
	}
	return a
}

// texts are right and wrong ones of the examples' language, with errors of all kinds.
func texts() []string {
	return []string{"", "1;", "1;1;", "1+1;1;", "1;1+1+1;1;", "1 1;", ";", "1;#;1;", "1 1;+;1;#1;", "1", "1;1", ";1+", "###", "1+;1;"}
}

// TestOldStays is P1204: the old tree's nodes, and all that they answer, are what they were, whatever comes out.
func TestOldStays(t *testing.T) {
	x := made(t, ten)
	for _, a := range texts() {
		for _, b := range texts() {
			w := newBench(x)
			old := w.first(t, row("1+;", a))
			was := portrait(old)
			now := row("1+;", b)
			ahead, behind := most(leavesOf(old), now)
			for range 2 {
				w.next(t, old, now, ahead, behind)
				w.next(t, old, now, ahead/2, behind/2)
				refused(t, a, x, w.m, old, now, ahead+1, behind+1, api.ErrFrom)
				refused(t, a, x, w.m, old, now[:len(now)-1], 0, 0, api.ErrLeaf)
				if !slices.Equal(portrait(old), was) {
					t.Fatalf("P1204: %q to %q", a, b)
				}
			}
		}
	}
}

// TestListStays is P2: the leaves that are handed in, and their spare room, stay as they are, and the tree does not hang on them.
func TestListStays(t *testing.T) {
	x := made(t, ten)
	odd := api.Leaf{Kind: 99, Skip: -7}
	for _, a := range texts() {
		for _, b := range texts() {
			w := newBench(x)
			old := w.first(t, row("1+;", a))
			want := row("1+;", b)
			ahead, behind := most(leavesOf(old), want)
			list := append(slices.Clone(want), odd, odd, odd)
			n, _ := w.next(t, old, list[:len(want)], ahead, behind)
			if !slices.Equal(list, append(slices.Clone(want), odd, odd, odd)) {
				t.Fatalf("P2: %q to %q: left %v", a, b, list)
			}
			was := portrait(n)
			for i := range list {
				list[i] = odd
			}
			if !slices.Equal(portrait(n), was) || !slices.Equal(leavesOf(n), want) {
				t.Fatalf("P2: %q to %q: the tree hangs on the leaves", a, b)
			}
		}
	}
}

// TestTreesStay is P2 and P1204: trees that were made stay what they were when others are made out of them, and of these.
func TestTreesStay(t *testing.T) {
	w := newBench(made(t, ten))
	var trees []*tree.Node
	var were [][]answers
	root := w.first(t, row("1+;", "1;"))
	for range 3 {
		for _, text := range texts() {
			now := row("1+;", text)
			ahead, behind := most(leavesOf(root), now)
			root, _ = w.next(t, root, now, ahead, behind)
			trees, were = append(trees, root), append(were, portrait(root))
			for i, n := range trees {
				if !slices.Equal(portrait(n), were[i]) {
					t.Fatalf("P1204: %q has changed tree %d", text, i)
				}
			}
		}
	}
}

// TestAgain is P3: the same call gives the same tree and the same count, whatever was done in between; the new nodes are other ones.
func TestAgain(t *testing.T) {
	w := newBench(made(t, ten))
	old := w.first(t, row("1+;", "1;1+1;1;"))
	now := row("1+;", "1;1+1 1;1;")
	first, count := w.next(t, old, now, 5, 4)
	for _, text := range texts() {
		other, _ := w.next(t, old, row("1+;", text), 0, 0)
		w.next(t, other, row("1+;", text), 0, 1)
		again, c := w.next(t, old, now, 5, 4)
		if c != count || !slices.Equal(bare(again), bare(first)) {
			t.Errorf("P3: %v, not %v", c, count)
		}
	}
}

// TestStoresApart: the same tables, with another store, make the same trees.
func TestStoresApart(t *testing.T) {
	x := made(t, ten)
	a, b := newBench(x), newBench(x)
	oldA, oldB := a.first(t, row("1+;", "1;1;")), b.first(t, row("1+;", "1;1;"))
	for range 3 {
		nA, countA := a.next(t, oldA, row("1+;", "1;+1;"), 2, 3)
		nB, countB := b.next(t, oldB, row("1+;", "1;+1;"), 2, 3)
		if countA != countB || !slices.Equal(bare(nA), bare(nB)) {
			t.Errorf("P3: %v and %v", countA, countB)
		}
		a.next(t, nA, row("1+;", ";;"), 0, 1)
	}
	n, count, e := reuse.Parse(x, b.m, oldA, row("1+;", "1;+1;"), 2, 3) // P1: of another store nothing is said, but it ends
	if n == nil || e != api.OK || count.Kept+count.Fresh != n.Size() {
		t.Errorf("P1: %v %v", count, e)
	}
}
