package layout

import (
	"graft/api"
	"graft/tree"
)

// piece is a row of leaves that are written as they stand, and what is asked for ahead of them. Behind all others comes one that has no leaves: what is asked for there stands ahead of the end leaf.
type piece struct {
	from, to int // the leaves, by their places in the row of all
	first    bool
	asked
}

// walk goes through the tree of a root. Trees are too deep for calls within calls: the nodes that are open stand in a list, the upper ones first.
type walk struct {
	gaps   [][]int
	open   []opened
	passed int // how many leaves were passed
	end    int // the end leaf's place among them
	asked  asked
	pieces []piece
}

// opened is a node of which some children, and some gaps, are still to come.
type opened struct {
	node *tree.Node
	gaps []int
	next int
}

// pieces tells the pieces of a root whose last leaf is the end.
func (l *Layout) pieces(root *tree.Node) []piece {
	w := &walk{gaps: l.rules.Gaps, end: root.Leafs() - 1}
	kinds := w.asked.kinds()
	w.enter(root)
	for len(w.open) > 0 {
		last := &w.open[len(w.open)-1]
		if last.gaps != nil {
			kinds[last.gaps[last.next]]()
		}
		kid, more := last.node.Kid(last.next)
		last.next++
		if more {
			w.enter(kid)
		} else {
			w.open = w.open[:len(w.open)-1]
		}
	}
	return append(w.pieces, piece{from: w.end, to: w.end})
}

// enter comes to a node: what is below an error node is not gone through.
func (w *walk) enter(n *tree.Node) {
	switch n.Kind() {
	case api.NLeaf, api.NError:
		w.take(n.Leafs())
	default:
		w.open = append(w.open, opened{node: n, gaps: w.gapsOf(n)})
	}
}

// take makes the next leaves one piece, the end leaf left out.
func (w *walk) take(leaves int) {
	from := w.passed
	w.passed += leaves
	to := min(w.passed, w.end)
	if from >= to {
		return
	}
	p := piece{from: from, to: to, asked: w.asked}
	if len(w.pieces) == 0 {
		p.first, p.form = true, asNothing // gaps ahead of all pieces count for the depth alone
	}
	w.pieces = append(w.pieces, p)
	w.asked.form = asNothing
}

// gapsOf tells the gaps of a node, if it is one of a production.
func (w *walk) gapsOf(n *tree.Node) []int {
	if n.Kind() != api.NInner || n.N() >= len(w.gaps) || n.Count()+1 != len(w.gaps[n.N()]) {
		return nil
	}
	return w.gaps[n.N()]
}
