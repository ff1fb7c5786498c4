package parse

import (
	"cmp"
	"slices"

	"graft/api"
	"graft/tree"
)

// outlook tells which terminals stand in a list of leaves from a place on, each with its first place. It looks no further than it is asked, and at no leaf twice, also when it is asked of a later place: errors may be as many as leaves, and the leaf that goes on far away.
type outlook struct {
	p      *Machine
	leaves []*tree.Node
	seen   int                   // the leaves ahead of it were looked at
	places [api.MaxLex + 2][]int // of each terminal those at which it was seen
	firsts []sight               // by rising places
}

// sight is a terminal at a place.
type sight struct {
	terminal, place int
}

func newOutlook(p *Machine, leaves []*tree.Node) *outlook {
	return &outlook{p: p, leaves: leaves}
}

// from moves to a place that is not ahead of the last one.
func (o *outlook) from(place int) {
	o.seen = max(o.seen, place)
	o.firsts = o.firsts[:0]
	for terminal, l := range o.places {
		for len(l) > 0 && l[0] < place {
			l = l[1:]
		}
		o.places[terminal] = l
		if len(l) > 0 {
			o.firsts = append(o.firsts, sight{terminal, l[0]})
		}
	}
	slices.SortFunc(o.firsts, func(a, b sight) int { return cmp.Compare(a.place, b.place) })
}

// nth tells the terminal that comes up as the n-th new one.
func (o *outlook) nth(n int) (sight, bool) {
	for len(o.firsts) <= n && o.seen < len(o.leaves) {
		o.look()
	}
	if len(o.firsts) <= n {
		return sight{}, false
	}
	return o.firsts[n], true
}

// look looks at one leaf more.
func (o *outlook) look() {
	if terminal := o.p.terminal(o.leaves[o.seen]); terminal != none {
		if len(o.places[terminal]) == 0 {
			o.firsts = append(o.firsts, sight{terminal, o.seen})
		}
		o.places[terminal] = append(o.places[terminal], o.seen)
	}
	o.seen++
}
