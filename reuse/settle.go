package reuse

import (
	"slices"

	"graft/api"
	"graft/tree"
)

// settler puts old nodes in the place of new ones that are equal to them, over the same leaves.
type settler struct {
	store  *tree.Store
	kept   kept
	leaves []*tree.Node       // the new text's; those that are kept are the old tree's
	place  int                // how many of them were passed
	taken  []*tree.Node       // the old subtrees that stand in the new tree and were not passed
	above  map[int]*tree.Node // what lies above an old node, by its Number
	open   []opened           // the nodes on the way from the root
	done   []*tree.Node       // what stands in the place of their children, as far as these are settled
}

// settled is a tree that was made, with all old nodes that it must have.
func (b *maker) settled(root *tree.Node) (*tree.Node, api.Count) {
	s := settler{store: b.store, kept: b.kept, leaves: b.leaves, taken: b.taken}
	if root.Kind() != api.NBroken { // which has nothing above its leaves but itself
		s.above = b.parents()
	}
	return s.whole(root)
}

// parents finds what lies above old nodes: if it can stand again, since all its leaves are kept, and does not stand in the new tree already. It is known by the first of its children that has leaves.
func (b *maker) parents() map[int]*tree.Node {
	above, taken := map[int]*tree.Node{}, b.taken
	for left := []offer{{node: b.old}}; len(left) > 0; {
		last := len(left) - 1
		x := left[last]
		left = left[:last]
		if len(taken) > 0 && taken[0] == x.node {
			taken = taken[1:]
			continue
		}
		left = b.keptKids(left, x)
		kids := left[last:]
		if len(kids) > 0 && b.kept.whole(x.from, x.to()) {
			above[kids[0].node.Number()] = x.node
		}
		slices.Reverse(kids)
	}
	return above
}

// keptKids puts the children of an old node that have kept leaves behind a list.
func (b *maker) keptKids(list []offer, x offer) []offer {
	from := x.from
	for i := range x.node.Count() {
		k, _ := x.node.Kid(i)
		y := offer{node: k, from: from}
		if from = y.to(); b.kept.some(y.from, y.to()) {
			list = append(list, y)
		}
	}
	return list
}

// opened is a node of the new tree whose children are being settled.
type opened struct {
	node    *tree.Node
	from    int  // where that begins which was done for its children
	changed bool // whether a child is replaced by another node
	fresh   bool // whether a child has leaves and is no old node
	kept    int  // how many nodes of its children are old ones
}

// whole settles a tree from below. Trees are too deep for calls within calls.
func (s *settler) whole(root *tree.Node) (*tree.Node, api.Count) {
	s.open = []opened{{node: root}}
	for {
		top := s.open[len(s.open)-1]
		k, more := top.node.Kid(len(s.done) - top.from)
		if !more {
			n, kept := s.close()
			if len(s.open) == 0 {
				return n, api.Count{Kept: kept, Fresh: n.Size() - kept}
			}
			s.add(n, kept)
		} else if n, kept, ok := s.asItIs(k); ok {
			s.add(n, kept)
		} else {
			s.open = append(s.open, opened{node: k, from: len(s.done)})
		}
	}
}

// add puts a node, of which so many nodes are old ones, in the place of the next child.
func (s *settler) add(n *tree.Node, kept int) {
	o := &s.open[len(s.open)-1]
	k, _ := o.node.Kid(len(s.done) - o.from)
	s.done = append(s.done, n)
	o.changed = o.changed || n != k
	o.fresh = o.fresh || n.Leafs() > 0 && kept < n.Size()
	o.kept += kept
}

// asItIs tells what stands in the place of a node whose children need no look, and how many old nodes that has.
func (s *settler) asItIs(n *tree.Node) (in *tree.Node, kept int, ok bool) {
	switch {
	case n.Kind() == api.NLeaf:
		in = s.leaves[s.place]
		if _, _, ok := s.kept.was(s.place); ok {
			kept = 1
		}
	case n.Leafs() == 0: // it is an old one only below an old one
		in = n
	case len(s.taken) > 0 && s.taken[0] == n:
		s.taken = s.taken[1:]
		in, kept = n, n.Size()
	default:
		return nil, 0, false
	}
	s.place += n.Leafs()
	return in, kept, true
}

// close tells what stands in the place of a node whose children are settled: the old node over these, or a new one; and how many old nodes that has.
func (s *settler) close() (*tree.Node, int) {
	last := len(s.open) - 1
	o := s.open[last]
	kids := s.done[o.from:]
	s.open, s.done = s.open[:last], s.done[:o.from]
	if old, ok := s.over(o, kids); ok {
		return old, old.Size()
	}
	if !o.changed {
		return o.node, o.kept
	}
	n, _ := s.store.Make(o.node.Kind(), o.node.N(), kids...) // it is as great as that which was made
	return n, o.kept
}

// over tells the old node that is equal to a new one: the one above its children as they are settled, since those with leaves are equal only if they are the same.
func (s *settler) over(o opened, kids []*tree.Node) (*tree.Node, bool) {
	if o.fresh {
		return nil, false
	}
	first := slices.IndexFunc(kids, func(k *tree.Node) bool { return k.Leafs() > 0 })
	old := s.above[kids[first].Number()]
	if old == nil || old.Kind() != o.node.Kind() || old.N() != o.node.N() || old.Count() != len(kids) {
		return nil, false
	}
	for i, k := range kids {
		if was, _ := old.Kid(i); k != was && !emptyAlike(k, was) {
			return nil, false
		}
	}
	return old, true
}

// emptyAlike says whether two trees have no leaves and are equal.
func emptyAlike(a, b *tree.Node) bool {
	return a.Leafs() == 0 && b.Leafs() == 0 && a.Size() == b.Size() && slices.Equal(bare(a), bare(b))
}

// bare is a tree's rows, Ids left out.
func bare(n *tree.Node) []api.Row {
	rows := n.Rows()
	for i := range rows {
		rows[i].Id = 0
	}
	return rows
}
