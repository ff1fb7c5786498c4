package engine

import (
	"graft/api"
	"graft/rope"
	"graft/tree"
)

// edition is what a version is. It never changes. Its leaves hang in its tree, and what its edit put in stands in its text: neither is kept besides.
type edition struct {
	text         *rope.Rope
	root         *tree.Node
	parent       int // the version that was edited; -1: none
	at, del, ins int // the edit, with how many bytes were put in
}

// fits says whether an edit can be made of it.
func (e edition) fits(change api.Edit) api.Errno {
	size := e.text.Len()
	if change.At < 0 || change.At > size || change.Del < 0 || change.Del > size-change.At {
		return api.ErrRange
	}
	if size-change.Del+len(change.Ins) > api.MaxText {
		return api.ErrLong
	}
	return api.OK
}

func (e edition) rope() *rope.Rope { return e.text }

func (e edition) bytes() []byte { return e.text.Bytes() }

func (e edition) top() *tree.Node { return e.root }

func (e edition) rows() []api.Row { return e.root.Rows() }

// origin tells where it comes from.
func (e edition) origin() api.Origin {
	ins, _ := e.text.Part(e.at, e.at+e.ins)
	return api.Origin{Parent: e.parent, Edit: api.Edit{At: e.at, Del: e.del, Ins: ins}}
}

// leaves are those of its tree.
func (e edition) leaves() []api.Leaf {
	list := make([]api.Leaf, 0, e.root.Leafs())
	for _, n := range e.root.Leaves() {
		l, _ := n.Leaf()
		list = append(list, l)
	}
	return list
}

// errors tells where its text is wrong.
func (e edition) errors() []api.Span {
	switch {
	case e.root.Kind() == api.NBroken:
		return []api.Span{{From: 0, To: e.text.Len()}}
	case !e.root.Failed():
		return nil
	}
	var s search
	for at, n := range e.root.Walk() {
		s.meet(at, n)
	}
	return s.found
}

// search looks for the error nodes of a tree that lie below no other one.
type search struct {
	found  []api.Span
	begun  int // how many of these have met the leaf at whose own bytes they begin
	inside int // how many nodes are to come yet that lie below the last one
}

// meet takes the next node of the tree, and where it begins.
func (s *search) meet(at int, n *tree.Node) {
	if l, ok := n.Leaf(); ok {
		s.begin(at + l.Skip)
	}
	switch {
	case s.inside > 0:
		s.inside--
	case n.Kind() == api.NError:
		s.found = append(s.found, api.Span{To: at + n.Width()})
		s.inside = n.Size() - 1
	}
}

// begin lets the spans that wait for a leaf begin at its own bytes. One that has no leaves ends there too.
func (s *search) begin(place int) {
	for ; s.begun < len(s.found); s.begun++ {
		x := &s.found[s.begun]
		x.From, x.To = place, max(x.To, place)
	}
}
