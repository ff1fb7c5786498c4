package reuse

import (
	"graft/api"
	"graft/table"
	"graft/tree"
)

// nowhere is the state behind what can't stand; a table does nothing in it.
const nowhere = -1

// grammar is what must be known of a table's spec: which leaves may stand in a text, and which states lie behind trees.
type grammar struct {
	table  *table.Table
	trivia []bool // of each lexical rule
	lefts  []int  // of each production
}

func newGrammar(t *table.Table) grammar {
	g := grammar{table: t}
	s := t.States().Spec()
	for _, rule := range s.Lex {
		g.trivia = append(g.trivia, rule.Trivia)
	}
	for _, p := range s.Productions {
		g.lefts = append(g.lefts, p.Left)
	}
	return g
}

// stands says whether leaves of a kind may stand in a text.
func (g grammar) stands(kind int) bool {
	if kind == api.KBad || kind == api.KEnd {
		return true
	}
	return kind >= 0 && kind < len(g.trivia) && !g.trivia[kind]
}

// check tells what is wrong with leaves of which a tree is to be made, as parse.Build does: that is told ahead of what is wrong with the old ones, and without a tree.
func (g grammar) check(leaves []api.Leaf) api.Errno {
	if len(leaves) > api.MaxText+1 {
		return api.ErrLong
	}
	if len(leaves) == 0 {
		return api.ErrLeaf
	}
	room := api.MaxText
	for i, l := range leaves {
		last := i == len(leaves)-1
		if !g.stands(l.Kind) || (l.Kind == api.KEnd) != last || l.Skip < 0 || l.Len < 0 {
			return api.ErrLeaf
		}
		if l.Skip > room || l.Len > room-l.Skip { // a sum might wrap round
			return api.ErrLeaf
		}
		room -= l.Skip + l.Len
	}
	return api.OK
}

// behind is the state behind a state and a tree.
func (g grammar) behind(state int, n *tree.Node) int {
	switch n.Kind() {
	case api.NLeaf:
		return g.shifted(state, n.N())
	case api.NError:
		return g.shifted(state, len(g.trivia))
	case api.NInner:
		if n.N() < len(g.lefts) {
			return g.table.Goto(state, g.lefts[n.N()])
		}
	}
	return nowhere
}

// shifted is the state behind a state and a terminal.
func (g grammar) shifted(state, terminal int) int {
	if x := g.table.Action(state, terminal); x.Kind == api.AShift {
		return x.N
	}
	return nowhere
}
