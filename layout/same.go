package layout

import (
	"bytes"

	"graft/api"
	"graft/tree"
)

// pair is two nodes that stand at the same place of two trees.
type pair struct {
	a, b *tree.Node
}

// Same says whether two trees are the same but for trivia.
func Same(a, b *tree.Node, one, two []byte) bool {
	if len(one) != a.Width() || len(two) != b.Width() {
		return false
	}
	todo := []pair{{a, b}} // the next one is the last
	for len(todo) > 0 {
		p := todo[len(todo)-1]
		todo = todo[:len(todo)-1]
		if !p.alike() {
			return false
		}
		if _, leaf := p.a.Leaf(); leaf {
			if !bytes.Equal(own(p.a, one), own(p.b, two)) {
				return false
			}
			one, two = one[p.a.Width():], two[p.b.Width():]
		}
		todo = p.down(todo)
	}
	return true
}

// alike says whether the rows of two nodes are the same but for trivia.
func (p pair) alike() bool {
	return p.a.Kind() == p.b.Kind() && p.a.N() == p.b.N() && p.a.Count() == p.b.Count()
}

// down puts the children on a list, of which the last one is to come first.
func (p pair) down(todo []pair) []pair {
	for i := p.a.Count() - 1; i >= 0; i-- {
		a, _ := p.a.Kid(i)
		b, _ := p.b.Kid(i)
		todo = append(todo, pair{a, b})
	}
	return todo
}

// own tells the own bytes of the leaf with which a text begins: its Width counts them as the last ones.
func own(n *tree.Node, text []byte) []byte {
	l, _ := n.Leaf()
	length := l.Len
	if length < 0 || length > api.MaxText {
		length = 0
	}
	return text[n.Width()-length : n.Width()]
}
