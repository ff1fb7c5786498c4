package reuse

import (
	"slices"

	"graft/api"
	"graft/tree"
)

// offer is an old subtree that may stand again.
type offer struct {
	node *tree.Node
	from int  // the place of its first leaf among the old ones
	at   int  // the state behind which it stood; nowhere, if that is not known
	sure bool // whether a leaf follows it below the same node, and no error is between
}

// to is the place behind its last leaf.
func (x offer) to() int { return x.from + x.node.Leafs() }

// take puts on the old subtree whose first leaf has its turn at a place of the new text, if one can stand; it tells how many leaves that has.
func (b *maker) take(i int) int {
	place, limit, ok := b.kept.was(i)
	if !ok {
		return 0
	}
	b.vain = nowhere
offer:
	x := b.left[len(b.left)-1]
	switch {
	case x.to() <= place: // its turn has passed
		b.left = b.left[:len(b.left)-1]
		goto offer
	case x.node.Kind() == api.NLeaf:
		return 0
	case x.from == place && x.to() < limit && b.stands(x):
		b.taken, b.guessed = append(b.taken, x.node), !x.sure
		return x.node.Leafs()
	}
	b.breakDown()
	goto offer
}

// stands puts an old subtree on, if it can stand, as far as that can be known. The leaf behind it is the old one.
//
// If that leaf goes on behind it, then its leaves come to nothing else: there is just one way to go on (P12). And it does go on, if it followed below the same node: then they were of one production, or lay on the stack one behind the other when there was an error, and so they can behind every stack that leads to the state `at`. Else it hangs on what lies deeper in the stack, and is guessed, if there was no error.
func (b *maker) stands(x offer) bool {
	if x.node.Kind() != api.NInner || x.node.Failed() || !x.sure && (b.careful || b.failsBehind()) {
		return false
	}
	if x.at == b.vain || b.grammar.behind(x.at, x.node) == nowhere {
		return false
	}
	if b.machine.Take(x.node, x.at) == api.OK {
		return true
	}
	b.vain = x.at // it may begin with many subtrees that stood behind one and the same state
	return false
}

// failsBehind says whether an error stood in the old subtree behind the next one.
func (b *maker) failsBehind() bool {
	return len(b.left) > 1 && b.left[len(b.left)-2].node.Failed()
}

// breakDown puts the children of the next old subtree in its place.
func (b *maker) breakDown() {
	last := len(b.left) - 1
	x := b.left[last]
	b.left = b.left[:last]
	at, from := x.at, x.from
	for i := range x.node.Count() {
		k, _ := x.node.Kid(i)
		b.left = append(b.left, offer{node: k, from: from, at: at})
		from += k.Leafs()
		at = b.grammar.behind(at, k)
	}
	kids := b.left[last:]
	slices.Reverse(kids)
	assure(kids)
}

// assure says of the children of a node, the last one first, which of them are followed by a leaf, without an error between.
func assure(kids []offer) {
	sure := false
	for i, x := range kids {
		kids[i].sure = sure
		sure = (sure || x.node.Leafs() > 0) && !x.node.Failed()
	}
}
