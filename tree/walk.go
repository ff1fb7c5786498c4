package tree

import (
	"iter"

	"graft/api"
)

// Rows tells the tree as rows.
func (n *Node) Rows() []api.Row {
	rows := make([]api.Row, 0, n.size)
	for _, below := range n.Walk() {
		rows = append(rows, below.row())
	}
	return rows
}

// row is the node's own row: what is no leaf has a leaf of zeros.
func (n *Node) row() api.Row {
	return api.Row{Kind: n.kind, N: n.n, Skip: n.leaf.Skip, Len: n.leaf.Len, Kids: len(n.kids), Id: n.number}
}

// Leaves goes through the leaves, each with its place.
func (n *Node) Leaves() iter.Seq2[int, *Node] {
	return func(yield func(int, *Node) bool) {
		var w way
		next := n
	on:
		if next.kind == api.NLeaf && !yield(w.at, next) {
			return
		}
		if next = w.behind(next); next != nil {
			goto on
		}
	}
}

// Walk goes through all nodes, the upper ones first, each with its place.
func (n *Node) Walk() iter.Seq2[int, *Node] {
	return func(yield func(int, *Node) bool) {
		var w way
		next := n
	on:
		if !yield(w.at, next) {
			return
		}
		if next = w.behind(next); next != nil {
			goto on
		}
	}
}

// way is how far a walk has come. Trees are too deep for calls within calls: the nodes that are open stand in a list, the upper ones first.
type way struct {
	open []opened
	at   int // how many bytes the leaves have that were passed
}

// opened is a node of which some children are still to come.
type opened struct {
	node *Node
	next int
}

// behind passes a node, and tells the one that follows it in the order of rows: none at the walk's end.
func (w *way) behind(n *Node) *Node {
	if n.kind == api.NLeaf {
		w.at += n.width
	} else {
		w.open = append(w.open, opened{node: n})
	}
on:
	last := len(w.open) - 1
	if last < 0 {
		return nil
	}
	above := &w.open[last]
	if above.next == len(above.node.kids) {
		w.open = w.open[:last]
		goto on
	}
	above.next++
	return above.node.kids[above.next-1].node
}
