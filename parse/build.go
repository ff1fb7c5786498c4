package parse

import (
	"graft/api"
	"graft/tree"
)

// whole makes the tree of all leaves of a text, from the empty stack on.
func (p *Machine) whole(list []*tree.Node) (*tree.Node, []api.Mishap, api.Errno) {
	var told []api.Mishap
	p.dead = &deadEnds{}
	o := newOutlook(p, list)
	for i := 0; ; {
		root, e := p.next(list[i])
		switch {
		case root != nil:
			return root, told, api.OK
		case e == api.OK:
			i++
			continue
		case e == api.ErrFull:
			return nil, nil, e
		}
		r, ok := p.search(o, i)
		if !ok {
			told = append(told, api.Mishap{Leaf: i, Keep: 0, On: -1})
			return p.over(api.NBroken, 0, list), told, api.OK
		}
		if !p.mend(r, list[i:r.on]) { // and so there is none for the leaf that goes on
			return nil, nil, api.ErrFull
		}
		told = append(told, api.Mishap{Leaf: i, Keep: r.keep, On: r.on})
		i = r.on
	}
}

// next takes a leaf of any kind; of the end leaf it makes the root.
func (p *Machine) next(leaf *tree.Node) (*tree.Node, api.Errno) {
	if leaf.N() == api.KEnd {
		return p.End(leaf)
	}
	return nil, p.Put(leaf)
}
