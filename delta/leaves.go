package delta

import (
	"iter"

	"graft/api"
	"graft/tree"
)

// partings goes through the hunks of two trees, each with the bytes that its leaves of the second tree have. The leaves that count stand in both trees in one order: so the second tree's walk comes by the first one's places too.
func partings(a, b *tree.Node) iter.Seq2[api.Hunk, api.Span] {
	places := counting(a, b)
	return func(yield func(api.Hunk, api.Span) bool) {
		var h api.Hunk
		var s api.Span
		for at, leaf := range b.Leaves() {
			end := at + leaf.Width()
			place, counts := places[leaf.Number()]
			if !counts {
				h.Upto, s.To = h.Upto+1, end
				continue
			}
			h.To = place
			if some(h) && !yield(h, s) {
				return
			}
			h = api.Hunk{From: place + 1, To: place + 1, Into: h.Upto + 1, Upto: h.Upto + 1}
			s = api.Span{From: end, To: end}
		}
		h.To = a.Leafs()
		if some(h) {
			yield(h, s)
		}
	}
}

// some says whether there is a leaf in a hunk.
func some(h api.Hunk) bool { return h.From < h.To || h.Into < h.Upto }

// counting finds the leaves of the first tree that count: their places there, by their Numbers.
func counting(a, b *tree.Node) map[int]int {
	count, others := once(a), once(b)
	next := 0 // the first place of the second tree that is behind all leaves that count
	for _, leaf := range a.Leaves() {
		id := leaf.Number()
		_, single := count[id]
		other, both := others[id]
		if single && both && other >= next {
			next = other + 1
		} else {
			delete(count, id)
		}
	}
	return count
}

// twice stands for the places of a leaf that has more than one.
const twice = -1

// once finds the leaves that stand in a tree just once: their places among all its leaves, by their Numbers.
func once(n *tree.Node) map[int]int {
	places := map[int]int{}
	next := 0
	for _, leaf := range n.Leaves() {
		id := leaf.Number()
		if _, met := places[id]; met {
			places[id] = twice
		} else {
			places[id] = next
		}
		next++
	}
	for id, place := range places {
		if place == twice {
			delete(places, id)
		}
	}
	return places
}
