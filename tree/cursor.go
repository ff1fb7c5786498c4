package tree

import (
	"sort"

	"graft/api"
)

// Cursor stands at a node of a tree, and moves.
type Cursor struct {
	place
}

// Cursor stands at the node.
func (n *Node) Cursor() *Cursor {
	return &Cursor{place{way: []stand{{node: n}}}}
}

// place is where a cursor stands: the nodes from the top down to its own.
type place struct {
	way []stand
}

// stand is a node gone down to: where it begins in the whole tree, and which child of the node above it is.
type stand struct {
	node      *Node
	at, which int
}

// Node is where it stands.
func (p *place) Node() *Node { return p.here().node }

// Offset is the place of the node's first byte.
func (p *place) Offset() int { return p.here().at }

// Path tells the way from the top.
func (p *place) Path() []int {
	path := make([]int, 0, len(p.way)-1)
	for _, s := range p.way[1:] {
		path = append(path, s.which)
	}
	return path
}

// here is the last stand of the way.
func (p *place) here() stand { return p.way[len(p.way)-1] }

// Down goes to a child.
func (c *Cursor) Down(i int) bool {
	below, ok := c.here().child(i)
	if ok {
		c.way = append(c.way, below)
	}
	return ok
}

// Up goes to the node above.
func (c *Cursor) Up() bool {
	if c.atTop() {
		return false
	}
	c.way = c.way[:len(c.way)-1]
	return true
}

// Right goes to the next sister.
func (c *Cursor) Right() bool { return c.aside(1) }

// Left goes to the sister ahead.
func (c *Cursor) Left() bool { return c.aside(-1) }

// aside goes so many children of the node above to the right.
func (c *Cursor) aside(by int) bool {
	if c.atTop() {
		return false
	}
	last := len(c.way) - 1
	sister, ok := c.way[last-1].child(c.way[last].which + by)
	if ok {
		c.way[last] = sister
	}
	return ok
}

// atTop says whether there is no node above.
func (c *Cursor) atTop() bool { return len(c.way) == 1 }

// To goes to the leaf that holds a place. It goes up no further than it must: in a deep tree places that lie close are close.
func (c *Cursor) To(at int) bool {
	if !c.way[0].holds(at) {
		return false
	}
	for !c.here().holds(at) {
		c.Up()
	}
	for c.Node().kind != api.NLeaf {
		c.Down(c.here().over(at))
	}
	return true
}

// child is the stand at the i-th child, if there is one.
func (s stand) child(i int) (stand, bool) {
	if i < 0 || i >= s.node.Count() {
		return stand{}, false
	}
	k := s.node.kids[i]
	return stand{k.node, s.at + k.at, i}, true
}

// holds says whether a place of the whole tree is one of the node's bytes.
func (s stand) holds(at int) bool {
	return at >= s.at && at-s.at < s.node.width
}

// over tells which child holds a place that the node holds: the last one that begins there or ahead. Children without bytes that begin just there stand ahead of it.
func (s stand) over(at int) int {
	return sort.Search(len(s.node.kids), func(i int) bool { return s.node.kids[i].at > at-s.at }) - 1
}
