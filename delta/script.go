package delta

import (
	"graft/api"
	"graft/tree"
)

// nodes finds all nodes of a tree, by their Numbers.
func nodes(n *tree.Node) map[int]*tree.Node {
	all := map[int]*tree.Node{}
	for _, below := range n.Walk() {
		all[below.Number()] = below
	}
	return all
}

// writer writes the steps of a tree. Trees are too deep for calls within calls: the nodes that are open stand in a list, the upper ones first.
type writer struct {
	old   map[int]*tree.Node
	steps []api.Op
	open  []opened
}

// opened is a new node of which some children are still to come.
type opened struct {
	node *tree.Node
	next int
}

// begin writes the steps of a node, if they are one; else its children come first.
func (w *writer) begin(n *tree.Node) {
	leaf, isLeaf := n.Leaf()
	if _, old := w.old[n.Number()]; old {
		w.add(api.Op{Do: api.OKeep, Id: n.Number()})
	} else if isLeaf {
		w.add(api.Op{Do: api.OLeaf, Leaf: leaf})
	} else {
		w.open = append(w.open, opened{node: n})
	}
}

// on begins the next child of the lowest open node; if there is none that node is done.
func (w *writer) on() {
	last := len(w.open) - 1
	above := &w.open[last]
	k, more := above.node.Kid(above.next)
	if more {
		above.next++
		w.begin(k)
		return
	}
	w.add(api.Op{Do: api.OMake, Kind: above.node.Kind(), N: above.node.N(), Kids: above.node.Count()})
	w.open = w.open[:last]
}

func (w *writer) add(step api.Op) { w.steps = append(w.steps, step) }
