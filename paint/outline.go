package paint

import (
	"cmp"

	"graft/api"
	"graft/tree"
)

// order knows the nodes of a tree by their numbers in the order of Walk.
type order struct {
	ends  []int // by numbers: the number behind all those of the node's tree
	first []int // by numbers: where its children stand among kids
	kids  []int // the numbers of the children of all nodes

	// What was asked for last:
	path []int
	way  []int // the numbers from the top down to it
}

func orderOf(root *tree.Node) *order {
	o := &order{way: []int{0}}
	for _, n := range root.Walk() {
		o.add(n)
	}
	return o
}

// add takes up the next node.
func (o *order) add(n *tree.Node) {
	number := len(o.ends)
	o.ends = append(o.ends, number+n.Size())
	o.first = append(o.first, len(o.kids))
	next := number + 1
	for i := range n.Count() {
		o.kids = append(o.kids, next)
		kid, _ := n.Kid(i)
		next += kid.Size()
	}
}

// number tells the number of the node at the end of a path. Neighbouring findings mostly lie close: what this way has in common with the last one is not gone again. The path is kept.
func (o *order) number(path []int) int {
	same := 0
	for same < min(len(path), len(o.path)) && path[same] == o.path[same] {
		same++
	}
	o.way = o.way[:same+1]
	for at, which := range path[same:] {
		above := o.way[same+at]
		o.way = append(o.way, o.kids[o.first[above]+which])
	}
	o.path = path
	return o.way[len(path)]
}

// listed tells entries, which are handed in by the numbers of their nodes, in their order and with their depths.
func (o *order) listed(entries map[int]api.Entry) []api.Entry {
	var list []api.Entry
	var open []int // where the trees end of the nodes above that have an entry
	for _, number := range sorted(entries, cmp.Compare[int]) {
		for len(open) > 0 && open[len(open)-1] <= number {
			open = open[:len(open)-1]
		}
		e := entries[number]
		e.Depth = len(open)
		list = append(list, e)
		open = append(open, o.ends[number])
	}
	return list
}

// nameOf is what a finding calls its node, cut to the length that a name may have.
func nameOf(m api.Match, text []byte) string {
	c, _ := captured(m, "name")
	return string(text[c.From:min(c.To, c.From+api.MaxName)])
}
