package query

import "graft/tree"

// pattern is a pattern of nodes: its head, its checks and its capture.
type pattern struct {
	head   string // as it is written; of a bracket its top
	is     func(n *tree.Node) bool
	checks []check
	word   string // behind its `@`; empty, if it has none

	bracket bool
	parts   []part
	last    bool // a last dot

	place int // its number among all patterns of the query that have parts
}

// part is what a bracket asks of one child.
type part struct {
	*pattern
	near  bool // with a `.`
	deep  bool // with a `~`
	shape int  // of a deep one: the same number for all that fit the same nodes
}

// check asks something of a node's text.
type check struct {
	sign byte
	text string
	is   func(text []byte) bool
}

// top is one of the query's own patterns, with what its findings are made of.
type top struct {
	*pattern
	steps []step
	caps  []capture
}

// step is a choice of a finding: a part is given a child, and a node there. Steps stand in the order in which findings are told apart.
type step struct {
	*part
	of    *pattern // the bracket whose part it is
	which int      // of its parts
	ahead int      // the step of the part ahead of it; none, if it is the first
}

// capture is a word, and the step whose node it stands for; none: that of the whole finding.
type capture struct {
	word string
	step int
}

// none stands for a step that is not there.
const none = -1

// laid is a pattern with its steps and its captures.
func laid(p *pattern) top {
	t := top{pattern: p}
	t.lay(p, none)
	return t
}

// lay takes up the captures and steps of a pattern whose node is that of a step.
func (t *top) lay(p *pattern, at int) {
	if p.word != "" {
		t.caps = append(t.caps, capture{p.word, at})
	}
	ahead := none
	for i := range p.parts {
		t.steps = append(t.steps, step{part: &p.parts[i], of: p, which: i, ahead: ahead})
		ahead = len(t.steps) - 1
		t.lay(p.parts[i].pattern, ahead)
	}
}
