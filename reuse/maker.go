package reuse

import (
	"graft/api"
	"graft/parse"
	"graft/tree"
)

// patience is how many errors of a text a machine mends. At each one it searches anew, so that very many would cost the square of the text's length; parse.Build keeps in mind what it has searched.
const patience = 16

// maker makes the tree of a text out of an older tree's subtrees and of leaves. Its machine's stack is what the leaves alone come to there; but the tree that was put on last may be guessed, if it is no leaf: till another one goes on behind it.
type maker struct {
	grammar grammar
	store   *tree.Store
	machine *parse.Machine
	kept    kept
	old     *tree.Node
	leaves  []*tree.Node // the new text's; those that are kept are the old tree's
	left    []offer      // the old subtrees whose turn has not passed, the next one last
	vain    int          // a state behind which no tree can be put on ahead of the leaf whose turn it is
	taken   []*tree.Node // the old subtrees that were put on, in their order
	guessed bool         // whether it is not sure that the last of them can stand
	careful bool         // whether nothing is to be guessed
}

func newMaker(g grammar, m *tree.Store, k kept, old *tree.Node, leaves []*tree.Node) *maker {
	return &maker{grammar: g, store: m, kept: k, old: old, leaves: leaves}
}

// begin goes back to the first leaf.
func (b *maker) begin() {
	b.machine = parse.New(b.grammar.table, b.store)
	b.left = []offer{{node: b.old}}
	b.taken, b.guessed = nil, false
}

// whole makes the tree. Of its nodes those that were taken, with all below them, and the leaves that are kept are old ones.
func (b *maker) whole() (*tree.Node, api.Errno) {
	b.begin()
	for i, errors := 0, 0; ; {
		if n := b.take(i); n > 0 {
			i += n
			continue
		}
		root, e := b.put(b.leaves[i])
		switch {
		case root != nil || e == api.ErrFull:
			return root, e
		case e == api.OK:
			i++
			continue
		case b.guessed: // and wrongly: if there is an error here, the stack is another one
			b.careful = true
			b.begin()
			i, errors = 0, 0
			continue
		case errors == patience:
			return b.anew()
		}
		on, ok := b.machine.Mend(b.leaves, i)
		if !ok {
			return b.unmended(i)
		}
		i, errors = on, errors+1
	}
}

// put puts a leaf of any kind on; of the end leaf it makes the root.
func (b *maker) put(leaf *tree.Node) (root *tree.Node, e api.Errno) {
	if leaf.N() == api.KEnd {
		return b.machine.End(leaf)
	}
	if e = b.machine.Put(leaf); e == api.OK {
		b.guessed = false
	}
	return nil, e
}

// unmended is what a text comes to at an error that is not mended: there is no room, or nothing mends it.
func (b *maker) unmended(i int) (*tree.Node, api.Errno) {
	if _, _, ok := b.machine.Wrong(b.leaves, i); ok {
		return nil, api.ErrFull
	}
	b.taken = nil
	return b.store.Make(api.NBroken, 0, b.leaves...)
}

// anew makes the tree without any old node.
func (b *maker) anew() (*tree.Node, api.Errno) {
	b.taken = nil
	list := make([]api.Leaf, len(b.leaves))
	for i, n := range b.leaves {
		list[i], _ = n.Leaf()
	}
	root, _, e := parse.Build(b.grammar.table, b.store, list)
	return root, e
}
