package query

import (
	"graft/api"
	"graft/tree"
)

// walk knows the nodes of a tree by their numbers in the order of Walk. A node that hangs at several places has a number at each. Nodes are made known as they are come to: from the one ahead, or from the sister ahead.
type walk struct {
	size  int
	pages [][]spot // made when they are needed

	// The way to a node whose path was told, or to one below it:
	way  []int32 // the nodes that are gone down to
	down []int   // which children they are
}

// spot is what is known of a node at its place.
type spot struct {
	node      *tree.Node // nil, if nothing is known yet
	at, to    int        // where it begins and ends
	up, which int32      // the number of the node above, and which of its children this is
	depth     int32      // how many nodes are above
	skip      int32      // one more than the bytes of trivia of its first leaf, if it has leaves; 0, if they are not known yet
}

// page is how many spots are made at once.
const page = 1 << 9

func newWalk(n *tree.Node) walk {
	w := walk{size: n.Size(), pages: make([][]spot, (n.Size()+page-1)/page)}
	*w.slot(0) = newSpot(n, 0, none, 0, 0)
	return w
}

func newSpot(n *tree.Node, at, up, which, depth int) spot {
	s := spot{node: n, at: at, to: at + n.Width(), up: int32(up), which: int32(which), depth: int32(depth)}
	if l, is := n.Leaf(); is || n.Leafs() == 0 {
		s.skip = int32(trivia(l)) + 1
	}
	return s
}

// trivia tells how many bytes of trivia a leaf has in its tree: numbers that no text can have count as 0 there.
func trivia(l api.Leaf) int {
	if l.Skip < 0 || l.Skip > api.MaxText {
		return 0
	}
	return l.Skip
}

// slot is where the spot of a number stands.
func (w *walk) slot(i int) *spot {
	p := &w.pages[i/page]
	if *p == nil {
		*p = make([]spot, min(page, w.size-i/page*page))
	}
	return &(*p)[i%page]
}

// spot tells what is known of a node; the one ahead of it must have been come to, or it itself by after.
func (w *walk) spot(i int) *spot {
	s := w.slot(i)
	if s.node == nil {
		w.follow(i)
	}
	return s
}

// follow makes a node known from the one ahead of it.
func (w *walk) follow(i int) {
	above := w.slot(i - 1)
	at, up, which := above.at, i-1, 0
	if above.node.Count() == 0 {
		at = above.to
	}
	for which == above.node.Count() {
		which, up = int(above.which)+1, int(above.up)
		above = w.slot(up)
	}
	w.hang(i, at, up, which)
}

// hang makes a child of a node known.
func (w *walk) hang(i, at, up, which int) {
	above := w.slot(up)
	n, _ := above.node.Kid(which)
	*w.slot(i) = newSpot(n, at, up, which, int(above.depth)+1)
}

// end tells the number behind all those of a node's tree.
func (w *walk) end(i int) int { return i + w.spot(i).node.Size() }

// after tells the same; if that is the node's next sister it is made known.
func (w *walk) after(i int) int {
	s := w.spot(i)
	next, which := i+s.node.Size(), int(s.which)+1
	if s.up != none && which < w.slot(int(s.up)).node.Count() && w.slot(next).node == nil {
		w.hang(next, s.to, int(s.up), which)
	}
	return next
}

// span tells where a node's text begins and ends.
func (w *walk) span(i int) (from, to int) {
	s := w.spot(i)
	if s.skip == 0 {
		w.findSkip(i)
	}
	return s.at + int(s.skip) - 1, s.to
}

// findSkip finds out how many bytes of trivia the first leaf of a node has. All nodes on the way down to it have the same first leaf, and are told so: the way may be long.
func (w *walk) findSkip(i int) {
	low := i
	for w.spot(low).skip == 0 {
		low = w.leafy(low)
	}
	skip := w.spot(low).skip
	for ; i != low; i = w.leafy(i) {
		w.spot(i).skip = skip
	}
}

// leafy tells the first child that has leaves.
func (w *walk) leafy(i int) int {
	kid := i + 1
	for w.spot(kid).node.Leafs() == 0 {
		kid = w.after(kid)
	}
	return kid
}

// path tells the way to a node from the top. Paths are as long as trees are deep, and those that are told one behind the other are much alike: what is known of the way is not gone again.
func (w *walk) path(i int) []int {
	depth := int(w.spot(i).depth)
	for len(w.way) < depth {
		w.way, w.down = append(w.way, none), append(w.down, 0)
	}
	for d := depth - 1; d >= 0 && w.way[d] != int32(i); d-- {
		s := w.spot(i)
		w.way, w.down = w.way[:depth], w.down[:depth] // what was known below is below another node
		w.way[d], w.down[d] = int32(i), int(s.which)
		i = int(s.up)
	}
	return append([]int(nil), w.down[:depth]...)
}
