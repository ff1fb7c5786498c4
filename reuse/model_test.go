package reuse_test

import (
	"slices"
	"testing"

	"graft/api"
	"graft/parse"
	"graft/reuse"
	"graft/table"
	"graft/tree"
)

// found is a node of a tree, with the places of its leaves, from the first one to the one behind the last, and its rows without Ids.
type found struct {
	node     *tree.Node
	from, to int
	rows     []api.Row
	above    int // the place in the list of the node above it; -1 of the top
}

// list tells all nodes of a tree, in the order of its rows.
func list(n *tree.Node) []found {
	var out []found
	rows := bare(n)
	leaves := 0
	var open []int
	for _, below := range n.Walk() {
		for len(open) > 0 && len(out) >= open[len(open)-1]+out[open[len(open)-1]].node.Size() {
			open = open[:len(open)-1]
		}
		above := -1
		if len(open) > 0 {
			above = open[len(open)-1]
		}
		at := len(out)
		out = append(out, found{below, leaves, leaves + below.Leafs(), rows[at : at+below.Size()], above})
		if below.Kind() == api.NLeaf {
			leaves++
		}
		open = append(open, at)
	}
	return out
}

// bare is a tree's rows, Ids left out.
func bare(n *tree.Node) []api.Row {
	rows := n.Rows()
	for i := range rows {
		rows[i].Id = 0
	}
	return rows
}

// spot is a row of leaves by their places.
type spot struct {
	from, to int
}

// search is P1202 by its words: of each node of the new tree, in the order of rows, the old node that it must be; nil, if it must be none.
func search(old, now *tree.Node, ahead, behind int) []*tree.Node {
	olds := map[spot][]found{}
	for _, x := range list(old) {
		olds[spot{x.from, x.to}] = append(olds[spot{x.from, x.to}], x)
	}
	news := list(now)
	out := make([]*tree.Node, len(news))
	for i, x := range news {
		if x.from == x.to {
			if above := out[x.above]; above != nil {
				out[i] = x.node // it hangs below an old node: whether it is that one's is asked of the rows of all
			}
			continue
		}
		places := whereWere(x.from, x.to, old.Leafs(), now.Leafs(), ahead, behind)
		if places == nil || places[len(places)-1]-places[0] != len(places)-1 {
			continue
		}
		for _, y := range olds[spot{places[0], places[len(places)-1] + 1}] {
			if slices.Equal(x.rows, y.rows) {
				out[i] = y.node
			}
		}
	}
	return out
}

// whereWere tells the old places of the new leaves from a place up to another; none, if one is not kept.
func whereWere(from, to, olds, news, ahead, behind int) (places []int) {
	for i := from; i < to; i++ {
		switch {
		case i < ahead:
			places = append(places, i)
		case i >= news-behind:
			places = append(places, olds-(news-i))
		default:
			return nil
		}
	}
	return places
}

// bench holds what Parse answers against the words of the chapter.
type bench struct {
	x    *table.Table
	m    *tree.Store
	seen map[int]*tree.Node // all nodes that were there, by their Numbers
}

func newBench(x *table.Table) *bench { return &bench{x, tree.New(), map[int]*tree.Node{}} }

// note keeps the nodes of a tree in mind.
func (b *bench) note(t *testing.T, n *tree.Node) {
	t.Helper()
	for _, below := range n.Walk() {
		if was := b.seen[below.Number()]; was != nil && was != below {
			t.Fatalf("P1003: two nodes have the number %d", below.Number())
		}
		b.seen[below.Number()] = below
	}
}

// first is the tree of leaves, made out of none.
func (b *bench) first(t *testing.T, leaves []api.Leaf) *tree.Node {
	t.Helper()
	n, _, e := parse.Build(b.x, b.m, leaves)
	if n == nil || e != api.OK {
		t.Fatalf("P1101: %v of %v", e, leaves)
	}
	b.note(t, n)
	return n
}

// next is Parse of leaves that have a tree, with all that must hold of it.
func (b *bench) next(t *testing.T, old *tree.Node, leaves []api.Leaf, ahead, behind int) (*tree.Node, api.Count) {
	t.Helper()
	was := old.Rows()
	n, count, e := reuse.Parse(b.x, b.m, old, leaves, ahead, behind)
	if n == nil || e != api.OK {
		t.Fatalf("P1201: %v of %v, %d and %d", e, leaves, ahead, behind)
	}
	if !slices.Equal(old.Rows(), was) {
		t.Fatalf("P1204: %v", leaves)
	}
	want, _, _ := parse.Build(b.x, tree.New(), leaves)
	if !slices.Equal(bare(n), bare(want)) {
		t.Fatalf("P1201: %v out of %v, %d and %d: %v, not %v", leaves, leavesOf(old), ahead, behind, bare(n), bare(want))
	}
	if !slices.Equal(leavesOf(n), leaves) {
		t.Fatalf("P1201: the leaves %v, not %v", leavesOf(n), leaves)
	}
	b.wantSame(t, old, n, ahead, behind, count)
	b.note(t, n)
	return n, count
}

// wantSame is P1202, P1203, P1205 and P1207.
func (b *bench) wantSame(t *testing.T, old, n *tree.Node, ahead, behind int, count api.Count) {
	t.Helper()
	inOld, places := map[*tree.Node]bool{}, map[*tree.Node]bool{}
	for _, below := range old.Walk() {
		inOld[below] = true
	}
	want := search(old, n, ahead, behind)
	news := list(n)
	told := api.Count{}
	for i, x := range news {
		switch {
		case want[i] == nil && b.seen[x.node.Number()] != nil:
			t.Fatalf("P1202: node %d of %v (%d and %d) was there", i, bare(n), ahead, behind)
		case want[i] != nil && (want[i] != x.node || want[i].Number() != x.node.Number() || !inOld[x.node]):
			t.Fatalf("P1202: node %d of %v out of %v (%d and %d) is not the old one", i, bare(n), bare(old), ahead, behind)
		case x.above >= 0 && want[x.above] != nil && want[i] == nil:
			t.Fatalf("P1207: node %d of %v", i, bare(n))
		case places[x.node]:
			t.Fatalf("P1202: two places hold the node %d", x.node.Number())
		}
		places[x.node] = true
		if want[i] != nil {
			told.Kept++
		} else {
			told.Fresh++
		}
	}
	if count != told {
		t.Fatalf("P1203: %v, not %v", count, told)
	}
	if all := ahead+behind == old.Leafs() && n.Leafs() == old.Leafs(); all != (n == old) || all && count.Fresh != 0 || ahead+behind == 0 && count.Kept != 0 {
		t.Fatalf("P1205: %d and %d of %d and %d: %v", ahead, behind, n.Leafs(), old.Leafs(), count)
	}
}

// leavesOf are a tree's leaves.
func leavesOf(n *tree.Node) (out []api.Leaf) {
	for _, leaf := range n.Leaves() {
		l, _ := leaf.Leaf()
		out = append(out, l)
	}
	return out
}

// most tells how many leaves of two rows are the same from the front on, and how many of the others from the end on.
func most(old, now []api.Leaf) (ahead, behind int) {
	n := min(len(old), len(now))
	for ahead < n && old[ahead] == now[ahead] {
		ahead++
	}
	for behind < n-ahead && old[len(old)-1-behind] == now[len(now)-1-behind] {
		behind++
	}
	return ahead, behind
}
