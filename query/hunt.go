package query

import (
	"iter"

	"graft/api"
	"graft/tree"
)

// hunt goes after the findings of a query in a tree, one after the other.
type hunt struct {
	walk
	query *Query
	text  []byte
	known []known // by shapes
	tried []row   // by places: rows of which it is asked alone whether they can be filled
	open  []row   // by places: rows of the finding

	// The finding:
	pattern int
	node    int
	steps   []choice // what the steps have chosen
}

// choice is a child of a row, and a node of its tree: the child itself, if the part is not a deep one.
type choice struct {
	kid, node int
}

func newHunt(q *Query, n *tree.Node, text []byte) *hunt {
	return &hunt{
		walk:  newWalk(n),
		query: q,
		text:  text,
		known: make([]known, q.shapes),
		tried: make([]row, q.places),
		open:  make([]row, q.places),
		steps: make([]choice, q.steps),
	}
}

// findings goes through all findings. The last step goes on to its next choice, or if it has none the step ahead of it; the steps behind begin anew. No choice leads to nothing: where a part is given a child, all parts behind it can have theirs.
func (q *Query) findings(n *tree.Node, text []byte) iter.Seq[*hunt] {
	return func(yield func(*hunt) bool) {
		h := newHunt(q, n, text)
		var t *top
		step := 0
	next:
		t = &q.tops[h.pattern]
		if !h.fits(t.pattern, h.node) {
			goto behind
		}
		h.openRow(t.pattern, h.node)
	on:
		for ; step < len(t.steps); step++ {
			h.choose(step, &t.steps[step])
		}
		if !yield(h) {
			return
		}
	back:
		if step == 0 {
			goto behind
		}
		step--
		if !h.chooseNext(step, &t.steps[step]) {
			goto back
		}
		step++
		goto on
	behind:
		if h.pattern++; h.pattern == len(q.tops) {
			h.pattern = 0
			h.node++
		}
		if h.node < h.size {
			goto next
		}
	}
}

// choose gives a step its first choice: it has one.
func (h *hunt) choose(i int, s *step) {
	r := &h.open[s.of.place]
	kid := r.first
	if s.ahead != none {
		kid = h.after(h.steps[s.ahead].kid)
	}
	if !s.near {
		kid = h.place(r, s.which, kid)
	}
	h.take(i, s, kid)
}

// chooseNext gives a step its next choice, if it has one.
func (h *hunt) chooseNext(i int, s *step) bool {
	r, c := &h.open[s.of.place], &h.steps[i]
	end := h.after(c.kid)
	if s.deep {
		if node := h.below(s.part, c.node+1, end); node < end {
			h.takeNode(i, s, node)
			return true
		}
	}
	if s.near {
		return false
	}
	kid := h.place(r, s.which, end)
	if kid == r.end {
		return false
	}
	h.take(i, s, kid)
	return true
}

// take gives a step a child, and the first node there.
func (h *hunt) take(i int, s *step, kid int) {
	h.steps[i].kid = kid
	node := kid
	if s.deep {
		node = h.below(s.part, kid, h.end(kid))
	}
	h.takeNode(i, s, node)
}

func (h *hunt) takeNode(i int, s *step, node int) {
	h.steps[i].node = node
	h.openRow(s.part.pattern, node)
}

// openRow lays out the children of a node for the steps of its pattern's parts. If they lie there already what is known of them still holds.
func (h *hunt) openRow(p *pattern, node int) {
	if len(p.parts) == 0 {
		return
	}
	if r := &h.open[p.place]; r.first != node+1 {
		r.begin(p, node+1, h.end(node))
	}
}

// fits says whether a node fits a pattern.
func (h *hunt) fits(p *pattern, i int) bool {
	n := h.spot(i).node
	if !p.is(n) || !h.passes(p, i) {
		return false
	}
	switch {
	case len(p.parts) == 0:
		return !p.last || n.Count() == 0
	case len(p.parts) > n.Count():
		return false
	}
	r := &h.tried[p.place]
	r.begin(p, i+1, h.end(i))
	return h.filled(r)
}

// passes says whether a node's text is as the checks of a pattern ask.
func (h *hunt) passes(p *pattern, i int) bool {
	if len(p.checks) == 0 {
		return true
	}
	from, to := h.span(i)
	for _, c := range p.checks {
		if !c.is(h.text[from:to]) {
			return false
		}
	}
	return true
}

// below tells the first node from a number on, ahead of an end, that a deep part fits; the end, if it fits none.
func (h *hunt) below(p *part, from, end int) int {
	k := &h.known[p.shape]
	if k.fit == nil {
		*k = newKnown(h.size)
	}
	for {
		from = k.unfit.next(from)
		switch {
		case from >= end:
			return end
		case k.fits(from):
			return from
		case h.fits(p.pattern, from):
			k.setFit(from)
			return from
		}
		k.unfit.cross(from)
	}
}

// told is the finding as it is told.
func (h *hunt) told() api.Match {
	m := api.Match{Pattern: h.pattern}
	for _, c := range h.query.tops[h.pattern].caps {
		node := h.node
		if c.step != none {
			node = h.steps[c.step].node
		}
		from, to := h.span(node)
		m.Caps = append(m.Caps, api.Cap{Name: c.word, Path: h.path(node), From: from, To: to})
	}
	return m
}
