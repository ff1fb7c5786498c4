package query

import "slices"

// row is a bracket at a node: its parts are given children there. Children are told by their numbers in the walk.
type row struct {
	of         *pattern
	first, end int // the first child, and what is behind the last one
	tracks     []track
	asked      int // the tracks of so many parts are of this row, those behind are still of an older one
}

// track knows the children that a part without a dot can have so that all parts behind it have theirs too: all of them from the first place that was asked for up to next.
type track struct {
	kids []int
	next int
}

// begin puts a row at a node.
func (r *row) begin(p *pattern, first, end int) {
	r.of, r.first, r.end, r.asked = p, first, end, 0
	if r.tracks == nil {
		r.tracks = make([]track, len(p.parts))
	}
}

// track is that of a part; if it is asked for the first time it begins at a child.
func (r *row) track(part, from int) *track {
	for ; r.asked <= part; r.asked++ {
		t := &r.tracks[r.asked]
		t.kids, t.next = t.kids[:0], from
	}
	return &r.tracks[part]
}

// knows says whether a track has a child from a place on.
func (t *track) knows(from int) bool {
	return len(t.kids) > 0 && t.kids[len(t.kids)-1] >= from
}

// filled says whether all parts of a row can have children; there are children.
func (h *hunt) filled(r *row) bool {
	part, kid := 0, r.first
	if r.of.parts[0].near {
		var ok bool
		if part, kid, ok = h.stretch(r, part, kid, h.after(kid)); !ok {
			return false
		}
	}
	return h.rest(r, part, kid)
}

// rest says whether the parts from one on, which has no dot, can have children from a place on.
func (h *hunt) rest(r *row, part, from int) bool {
	return part == len(r.of.parts) || h.place(r, part, from) < r.end
}

// place tells the first child from a place on that a part without a dot can have so that all parts behind it have theirs; the row's end, if there is none.
func (h *hunt) place(r *row, part, from int) int {
	t := r.track(part, from)
	for t.next < r.end && !t.knows(from) {
		kid := t.next
		t.next = h.after(kid)
		behind, left, ok := h.stretch(r, part, kid, t.next)
		switch {
		case !ok:
		case h.rest(r, behind, left):
			t.kids = append(t.kids, kid)
		default:
			t.next = r.end // the parts behind have no room here, and further on they have less
		}
	}
	if !t.knows(from) {
		return r.end
	}
	at, _ := slices.BinarySearch(t.kids, from)
	return t.kids[at]
}

// stretch gives a part a child, of which the tree ends ahead of a number, and the parts with dots behind it the children behind that; it tells the next part, and what children are left for it.
func (h *hunt) stretch(r *row, part, kid, end int) (behind, left int, ok bool) {
on:
	if !h.holds(r, part, kid, end) {
		return 0, 0, false
	}
	part++
	if part == len(r.of.parts) || !r.of.parts[part].near {
		return part, end, true
	}
	if end == r.end {
		return 0, 0, false
	}
	kid, end = end, h.after(end)
	goto on
}

// holds says whether a part can have a child, of which the tree ends ahead of a number.
func (h *hunt) holds(r *row, part, kid, end int) bool {
	p := &r.of.parts[part]
	switch {
	case r.of.last && part == len(r.of.parts)-1 && end != r.end:
		return false
	case p.deep:
		return h.below(p, kid, end) < end
	}
	return h.fits(p.pattern, kid)
}
