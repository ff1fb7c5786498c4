package parse

import "graft/api"

// none is the terminal of what has none; a table does nothing at it.
const none = -1

// grammar is what a machine must know of a spec: its terminals, and how productions are done.
type grammar struct {
	trivia []bool  // of each lexical rule
	shapes []shape // of each production
}

// shape is what a production takes off a stack and puts on: so many trees, and one of a name.
type shape struct {
	length, left int
}

func newGrammar(s api.Spec) grammar {
	var g grammar
	for _, rule := range s.Lex {
		g.trivia = append(g.trivia, rule.Trivia)
	}
	for _, p := range s.Productions {
		g.shapes = append(g.shapes, shape{len(p.Right), p.Left})
	}
	return g
}

// errorAt is the terminal error.
func (g grammar) errorAt() int { return len(g.trivia) }

// endAt is the terminal end.
func (g grammar) endAt() int { return len(g.trivia) + 1 }

// terminal is the terminal of the leaves of a kind. The numbers of error and end are no kinds.
func (g grammar) terminal(kind int) int {
	switch {
	case kind == api.KEnd:
		return g.endAt()
	case kind >= 0 && kind < len(g.trivia) && !g.trivia[kind]:
		return kind
	}
	return none
}

// stands says whether leaves of a kind may stand in a text.
func (g grammar) stands(kind int) bool {
	return kind == api.KBad || g.terminal(kind) != none
}

// check tells what is wrong with leaves of which a tree is to be made.
func (g grammar) check(leaves []api.Leaf) api.Errno {
	if len(leaves) > api.MaxText+1 {
		return api.ErrLong
	}
	left := api.MaxText
	for i, l := range leaves {
		last := i == len(leaves)-1
		if !g.stands(l.Kind) || (l.Kind == api.KEnd) != last || l.Skip < 0 || l.Len < 0 {
			return api.ErrLeaf
		}
		if l.Skip > left || l.Len > left-l.Skip { // a sum might wrap round
			return api.ErrLeaf
		}
		left -= l.Skip + l.Len
	}
	if len(leaves) == 0 {
		return api.ErrLeaf
	}
	return api.OK
}
