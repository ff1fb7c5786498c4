package parse_test

import (
	"slices"

	"graft/api"
)

// begun is an item with the place at which it began.
type begun struct {
	item
	at int
}

// firstWrong is P1110's place: the least k such that the kinds of the leaves 0 to k begin no sentence, end counted as a terminal behind it; -1: there is none. It goes by the items that can have come to each place, with where they began, and by no stack.
func (m *model) firstWrong(leaves []api.Leaf) int {
	sets := [][]begun{m.closed(nil, []begun{{item{-1, 0}, 0}})}
	for k, l := range leaves {
		a, ok := m.terminal(l.Kind)
		set := sets[k]
		switch {
		case ok && a == m.endAt() && slices.Contains(set, begun{item{-1, 1}, 0}):
			return -1
		case !ok || a == m.endAt():
			return k
		}
		var next []begun
		for _, b := range set {
			if m.at(b.item) == a {
				next = append(next, begun{item{b.production, b.passed + 1}, b.at})
			}
		}
		if len(next) == 0 {
			return k
		}
		sets = append(sets, m.closed(sets, next))
	}
	return -1
}

// nothing is what at tells of an item that has passed all.
const nothing = 1 << 20

// at is the symbol that an item has not passed yet.
func (m *model) at(i item) int {
	if right := m.right(i.production); i.passed < len(right) {
		return right[i.passed]
	}
	return nothing
}

// closed adds to the items at a place, which is the one behind those of sets, the items that begin there, and those that pass a name that ends there.
func (m *model) closed(sets [][]begun, set []begun) []begun {
	add := func(b begun) {
		if !slices.Contains(set, b) {
			set = append(set, b)
		}
	}
	for before := 0; before < len(set); {
		before = len(set)
		for k := 0; k < len(set); k++ {
			b := set[k]
			if x := m.at(b.item); x < 0 {
				for p, production := range m.s.Productions {
					if nameOf(production.Left) == x {
						add(begun{item{p, 0}, len(sets)})
					}
				}
			} else if x == nothing && b.production >= 0 {
				from := set
				if b.at < len(sets) {
					from = sets[b.at]
				}
				for _, c := range from {
					if m.at(c.item) == nameOf(m.s.Productions[b.production].Left) {
						add(begun{item{c.production, c.passed + 1}, c.at})
					}
				}
			}
		}
	}
	return set
}
